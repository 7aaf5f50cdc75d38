/- Contracts of package voucher: right, balance. Contracts of package voucher: balance, give. Contracts of package chart: Copy. Contracts of package voucher: Check, Make. -/
import Derived.Test.YtcpgamidimfflaaGreatQ13
import Derived.Test.YtcpgamidimfflaaGreatQ08
import Derived.Test.YtcpgamidimfflaaGreatIterC
namespace Go.Proofs.YtcpgamidimfflaaGreat
open Go.RowKit Go.My Go.Maps
set_option linter.unusedSimpArgs false
set_option linter.unusedVariables false
attribute [local go_sem ↓] Go.wp_at_zero Go.wp_at_succ
def unitD : DataW Unit := .agg []
def keysL (L : List Lg) : List Lit := L.map fun g => .string g.nm
theorem keysL_key (L : List Lg) : ∀ x ∈ keysL L, WideAt.IsKeyLit x := fun x hx => by
  unfold keysL at hx
  obtain ⟨g, _, rfl⟩ := List.mem_map.1 hx
  exact isKey_str _
theorem keysL_take {L : List Lg} {k : Nat} (hk : k < L.length) : keysL (L.take (k + 1)) = keysL (L.take k) ++ [.string L[k].nm] := by
  unfold keysL
  rw [List.take_succ_eq_append_getElem hk, List.map_append]
  rfl
theorem add_len : ∀ (xs acc : List (List UInt8)), (acc.map Lit.string).Nodup → ((xs.map Lit.string).foldl addKey (acc.map Lit.string)).length ≤ acc.length + xs.length ∧ (((xs.map Lit.string).foldl addKey (acc.map Lit.string)).length = acc.length + xs.length ↔ (acc ++ xs).Nodup)
  | [], acc, h => by
    have h2 : acc.Nodup := (List.pairwise_map.1 h).imp fun {a b} hab e => hab (by rw [e])
    simp [h2]
  | x :: r, acc, h => by
    have h2 : acc.Nodup := (List.pairwise_map.1 h).imp fun {a b} hab e => hab (by rw [e])
    rw [List.map_cons, List.foldl_cons]
    unfold addKey
    have hany : (acc.map Lit.string).any (fun y => y.sameKey (.string x)) = acc.contains x := by
      rw [List.any_map]
      induction acc with
      | nil => rfl
      | cons a t ih =>
        rw [List.any_cons, List.contains_cons, ih (List.Pairwise.of_cons h) (List.Pairwise.of_cons h2)]
        show ((a == x) || _) = _
        rw [show (a == x) = (x == a) from Bool.beq_comm]
    rw [hany]
    by_cases hx : acc.contains x = true
    · rw [if_pos hx]
      obtain ⟨h3, h4⟩ := add_len r acc h
      unfold addKey at h3 h4
      refine ⟨by rw [List.length_cons]; omega, ?_⟩
      constructor
      · intro h5
        rw [List.length_cons] at h5
        omega
      · intro h5
        exfalso
        rw [List.nodup_append] at h5
        exact h5.2.2 x (by simpa using hx) x List.mem_cons_self rfl
    · rw [if_neg hx]
      have hx' : x ∉ acc := by simpa using hx
      have e : acc.map Lit.string ++ [Lit.string x] = (acc ++ [x]).map Lit.string := by simp
      have hn : ((acc ++ [x]).map Lit.string).Nodup := by
        have hp : (acc ++ [x]).Nodup := by
          rw [List.nodup_append]
          exact ⟨h2, by simp, fun a ha b hb => by rw [List.mem_singleton.1 hb]; rintro rfl; exact hx' ha⟩
        exact List.pairwise_map.2 (hp.imp fun {a b} hab e => hab (by injection e))
      rw [e]
      obtain ⟨h3, h4⟩ := add_len r (acc ++ [x]) hn
      unfold addKey at h3 h4
      rw [List.length_append, List.length_singleton] at h3 h4
      refine ⟨by rw [List.length_cons]; omega, ?_⟩
      rw [List.length_cons, show acc.length + (r.length + 1) = acc.length + 1 + r.length by omega, h4, List.append_assoc]
      rfl
theorem size_keys (L : List Lg) : (Maps.size (setOf unitD (keysL L)) = L.length) ↔ (L.map Lg.nm).Nodup := by
  rw [size_setOf unitD (keysL L) (keysL_key L)]
  have e : keysL L = (L.map Lg.nm).map Lit.string := by simp [keysL]
  obtain ⟨_, h⟩ := add_len (L.map Lg.nm) [] (by simp)
  rw [e]
  simpa using h
theorem owns_fr {F : Nat → Prop} {P : Program} {k : TypeId} {R : Value → Option (DataW Unit × List MemPlace)} {b n : Nat} {D : DataW Unit} {w w' : World} (h : w.ownsMap P k R b n D) (hf : Fr F w w') (hn : ¬ F b) : w'.ownsMap P k R b n D := by
  obtain ⟨es, clock, hb, r⟩ := h
  exact ⟨es, clock, (hf.block b (Array.getElem?_eq_some_iff.1 hb).1 hn).trans hb, r⟩
def RtRel (w : World) (m : Nat) (L : List Lg) (iv : Value) (wr : World) : Prop :=
  ∃ k : Nat, k ≤ L.length ∧ iv = .int .i64 k ∧ wr.ownsMap Tryz.prog 9 unitElem m k (setOf unitD (keysL (L.take k))) ∧ Fr No w wr ∧ (L.take k).all okLg = true
theorem rightB_end {L : List Lg} (h : 2 ≤ L.length ∧ L.length ≤ 6) (ha : L.all okLg = true) : rightB L = decide (Maps.size (setOf unitD (keysL L)) = L.length) := by
  unfold rightB
  have e : L.all (fun g => nameB g.nm && decide (g.sum ≠ 0)) = true := ha
  rw [e, decide_eq_true h.1, decide_eq_true h.2]
  simp only [Bool.true_and]
  exact decide_eq_decide.2 (size_keys L).symm
set_option maxRecDepth 100000 in
set_option maxHeartbeats 2000000 in
theorem right_any (F : Nat → Prop) (A : Option Addr) (c : Nat) (cells : List Value) (L : List Lg) (w : World) (hr : Rd w F 2 A L.length cells) (hE : Each RdLg 2 cells L) :
    Calls Tryz.prog 266 #[.slice A L.length c] w fun e w' => e = .returned (.bool (rightB L)) ∧ Fr No w w' := by
  by_cases hlen : 2 ≤ L.length ∧ L.length ≤ 6
  · have HR := Lib.hid hr
    have HE := Lib.hid hE
    have HLN := Lib.hid hlen
    obtain ⟨hl2, hl6⟩ := hlen
    have hl2' : ¬ (L.length : Int) < 2 := by omega
    have hl6' : ¬ (6 : Int) < (L.length : Int) := by omega
    have hmm := @run_makeMap Tryz.prog
    have HM0 : Hid ((w.alloc (.map #[] 0)).ownsMap Tryz.prog 9 unitElem w.heap.size 0 (setOf unitD (keysL (L.take 0)))) := World.ownsMap_made _ _ _ _
    have HFM : Hid (Fr No w (w.alloc (.map #[] 0))) := (Fr.refl _ _).alloc _
    clear hr hE
    go_enter Tryz.func266, Tryz.ntmps266
    go_wp2
    clear hmm
    go_loopw [17] (fun iv wr => RtRel w w.heap.size L iv wr) (fun iv _ => L.length - (intOf iv).toNat)
    case atStart => exact ⟨0, Nat.zero_le _, rfl, HM0.out, HFM.out, rfl⟩
    case round =>
      obtain ⟨k, hk, rfl, hown, hfr, hall⟩ := hrel
      have HOWN := Lib.hid hown
      have HFR := Lib.hid hfr
      have HALL := Lib.hid hall
      by_cases hlt : k < L.length
      · obtain ⟨ad, rfl, _, hok, q0, q1⟩ := lg_at (HR.out.fr (by omega) hfr fun _ _ _ h => h) HE.out k hlt hlt
        have HBAD : Hid (okLg L[k] = false → rightB L = false) := rightB_bad hlt
        have HNX : Hid (okLg L[k] = true → (L.take (k + 1)).all okLg = true) := fun h => by
          rw [List.take_succ_eq_append_getElem hlt, List.all_append, HALL.out]
          simp [h]
        have HKY : Hid (setOf unitD (keysL (L.take (k + 1))) = (setOf unitD (keysL (L.take k))).put (.string L[k].nm) unitD) := by
          show _ = _
          rw [keysL_take hlt, setOf_snoc]
        generalize L[k] = g at *
        obtain ⟨nm, sm⟩ := g
        unfold Lg.ok at hok
        simp only at q0 q1 hok
        have HNM := Lib.hid fun W => name_any nm W hok.1
        have HSZ := Lib.hid hok.1
        have hbx := Blk.new wr 152 #[.string nm, .int .i64 sm]
        have HBX := Lib.hid hbx
        clear hown hfr hall hok hbx
        go_wp2_with fail
        refine (HNM.out _).mono ?_
        rintro e w3 ⟨rfl, hb3⟩
        have hbx3 := HBX.out.below hb3 (by simp)
        have x0 := hbx3.cell 0
        have x1 := hbx3.cell 1
        simp only [List.getElem?_toArray, List.getElem?_cons_zero, List.getElem?_cons_succ] at x0 x1
        have HF3 : Hid (Fr No wr w3) := Fr.trans ((Fr.refl _ _).alloc _) (Fr.of_below hb3 _)
        have hb3l := hbx3.lt
        clear hb3 hbx3
        cases hnb : nameB nm.data.toList with
        | false =>
          have HB : Hid (rightB L = false) := HBAD.out (by unfold okLg Lg.nm; simp only; rw [hnb]; rfl)
          clear hnb
          go_wp2
          go_ret
          exact ⟨by rw [HB.out]; rfl, HFR.out.trans HF3.out⟩
        | true =>
          by_cases hs0 : sm = 0
          · have HB : Hid (rightB L = false) := HBAD.out (by unfold okLg Lg.nm; simp only; rw [hnb, hs0]; rfl)
            subst hs0
            clear hnb
            go_wp2
            go_ret
            exact ⟨by rw [HB.out]; rfl, HFR.out.trans HF3.out⟩
          · have hz : (sm == 0) = false := beq_eq_false_iff_ne.2 hs0
            have HA : Hid ((L.take (k + 1)).all okLg = true) := HNX.out (by unfold okLg Lg.nm; simp only; rw [hnb]; simp [hs0])
            have HO3 := Lib.hid (owns_fr HOWN.out HF3.out (fun h => h))
            clear hnb hs0
            go_wp2_with (at_mapUpdate; refine wpList_mapUpdate_own _ rfl (.tmp 30) (.tmp 32) (.tmp 33) 333 rfl 9 100 law Tryz.underlying333 unitElem w.heap.size _ _ rfl HO3.out (by unfold maxLen; omega) (.string nm) _ _ rfl rfl (key_mk nm HSZ.out) _ _ unitElem_mk ?_; intro w4 ho4 hg4; go_frame)
            have HO4 := Lib.hid ho4
            have HG4 := Lib.hid (fr_grown hg4)
            clear ho4 hg4
            go_roundw
            case rel =>
              refine ⟨k + 1, by omega, by go_num, ?_, ?_, HA.out⟩
              · rw [HKY.out]
                exact HO4.out
              · exact (HFR.out.trans HF3.out).trans' HG4.out (fun i hi hlt => by have : i = w.heap.size := hi; omega)
            case measure => simp [intOf]; omega
      · obtain rfl : k = L.length := by omega
        have hlm := fun ty => HOWN.out.len Tryz.underlying333 ty
        rw [List.take_length] at hlm hall
        have HEND := Lib.hid (rightB_end HLN.out hall)
        generalize Maps.size (setOf unitD (keysL L)) = z at *
        clear hown hfr hall
        by_cases hzz : z = L.length
        · subst hzz
          go_wp2
          go_ret
          exact ⟨by rw [HEND.out]; simp, HFR.out⟩
        · have hz1 : ((z : Int) == (L.length : Int)) = false := by rw [beq_eq_false_iff_ne]; omega
          have hz2 : (z == L.length) = false := beq_eq_false_iff_ne.2 hzz
          go_wp2
          go_ret
          exact ⟨by rw [HEND.out, decide_eq_false hzz]; rfl, HFR.out⟩
  · have HB := Lib.hid (rightB_len hlen)
    by_cases h2 : 2 ≤ L.length
    · have h6 : (6 : Int) < (L.length : Int) := by omega
      have h2' : ¬ (L.length : Int) < 2 := by omega
      clear hlen hr hE
      go_enter Tryz.func266, Tryz.ntmps266
      go_wp2
      go_ret
      exact ⟨by rw [HB.out]; rfl, Fr.refl _ _⟩
    · have h2' : (L.length : Int) < 2 := by omega
      clear hlen hr hE
      go_enter Tryz.func266, Tryz.ntmps266
      go_wp2
      go_ret
      exact ⟨by rw [HB.out]; rfl, Fr.refl _ _⟩
end Go.Proofs.YtcpgamidimfflaaGreat
namespace Go.Proofs.YtcpgamidimfflaaGreat
open Go.RowKit Go.My Go.Maps
set_option linter.unusedSimpArgs false
set_option linter.unusedVariables false
attribute [local go_sem ↓] Go.wp_at_zero Go.wp_at_succ
theorem sums_take {L : List Lg} {k : Nat} (hk : k < L.length) : sums (L.take (k + 1)) = sums (L.take k) ++ [L[k].sum] := by
  unfold sums
  rw [List.take_succ_eq_append_getElem hk, List.map_append]
  rfl
theorem sums_length (L : List Lg) : (sums L).length = L.length := by simp [sums]
theorem sums_in {L : List Lg} (h : ∀ g ∈ L, g.ok) : ∀ x ∈ sums L, In64 x := fun x hx => by
  unfold sums at hx
  obtain ⟨g, hg, rfl⟩ := List.mem_map.1 hx
  exact (h g hg).2
theorem each_ok {cells : List Value} {L : List Lg} (hE : Each RdLg 2 cells L) : ∀ g ∈ L, g.ok := fun g hg => by
  obtain ⟨k, hk, rfl⟩ := List.getElem_of_mem hg
  exact (each_nth hE k hk).2
def BalRel (w : World) (L : List Lg) (lv iv : Value) (wr : World) : Prop :=
  ∃ k : Nat, k ≤ L.length ∧ iv = .int .i64 k ∧ Own wr 2 1 lv k (is_ (sums (L.take k))) ∧ Fr No w wr ∧ Newer w.heap.size none lv.ownBlock
set_option maxRecDepth 100000 in
set_option maxHeartbeats 1000000 in
theorem balance_any (F : Nat → Prop) (A : Option Addr) (c : Nat) (cells : List Value) (L : List Lg) (w : World) (hr : Rd w F 2 A L.length cells) (hE : Each RdLg 2 cells L) (hL : L.length ≤ 100) :
    Calls Tryz.prog 267 #[.slice A L.length c] w fun e w' => e = .returned (.bool (decide (total (sums L) = 0))) ∧ Fr No w w' := by
  have HR := Lib.hid hr
  have HE := Lib.hid hE
  have HNB : Hid (∀ (W : World) o cs, ((W.alloc o).alloc (.cells cs 2)).heap[W.heap.size + 1]? = some (.cells cs 2 (0, 0))) := fun W o cs => by
    have := heap_alloc_new (W.alloc o) (.cells cs 2)
    rw [World.size_alloc] at this
    exact this
  clear hr hE
  go_enter Tryz.func267, Tryz.ntmps267
  go_wp2
  go_loopw [3, 10] (fun lv iv wr => BalRel w L lv iv wr) (fun _ iv _ => L.length - (intOf iv).toNat)
  case atStart => exact ⟨0, Nat.zero_le _, rfl, Own.nil _ _ _, Fr.refl _ _, .inl rfl⟩
  case round =>
    obtain ⟨k, hk, rfl, hown, hfr, hnew⟩ := hrel
    by_cases hlt : k < L.length
    · obtain ⟨ad, rfl, _, _, q0, q1⟩ := lg_at (HR.out.fr (by omega) hfr fun _ _ _ h => h) HE.out k hlt hlt
      have E : Hid (is_ (sums (L.take (k + 1))) = is_ (sums (L.take k)) ++ [.int .i64 L[k].sum]) := by
        show _ = _
        rw [sums_take hlt, is_append]
        rfl
      have hX : Hid (k + 1 ≤ maxLen ∧ (k + 1) * 8 ≤ 140737488355328) := by
        refine ⟨?_, ?_⟩ <;> (try simp only [maxLen]) <;> omega
      generalize L[k] = g at *
      obtain ⟨nm, sm⟩ := g
      simp only at q0 q1 E
      have HOWN := Lib.hid hown
      have HFR := Lib.hid hfr
      have HNEW := Lib.hid hnew
      clear hown hfr hnew
      go_wp2_with (at_builtin; refine wpList_app _ rfl (.tmp 14) (.tmp 17) 273 273 rfl elI ((HOWN.out.alloc _).alloc _) rfl (Src.of_new (wr.heap.size + 1) (HNB.out _ _ _) Tryz.underlying273 rfl (by simp [Value.oneCell'])) rfl hX.out.1 hX.out.2 ?_; intro v1 w3 hown3 hfr3 hnew3)
      go_roundw
      case rel =>
        refine ⟨k + 1, by omega, by go_num, ?_, ?_, ?_⟩
        · rw [E.out]
          exact hown3
        · exact fr_no ((HFR.out.alloc _).alloc _) HNEW.out hfr3
        · exact HNEW.out.trans (Newer.of hnew3) (by have := HFR.out.size; simp; omega)
      case measure => simp [intOf]; omega
    · obtain rfl : k = L.length := by omega
      rw [List.take_length] at hown
      obtain ⟨A4, c4, rfl, hl4, hc4⟩ := hown.form
      have h4 := total_any _ A4 c4 (sums L) wr (by rw [sums_length]; exact hown.rd) (sums_in (each_ok HE.out)) (by rw [sums_length]; omega)
      rw [sums_length] at h4
      have HF := Lib.hid hfr
      clear hown hfr hnew
      by_cases hin : In64 (total (sums L))
      · rw [two64_in hin] at h4
        have H4 := Lib.hid h4
        obtain ⟨T, hTe⟩ : ∃ T, total (sums L) = T := ⟨_, rfl⟩
        rw [hTe] at H4
        have HTE := Lib.hid hTe
        clear h4 hin hTe
        go_wp2_with fail
        refine H4.out.mono ?_
        rintro e w5 ⟨rfl, rfl⟩
        by_cases hT : T = 0
        · subst hT
          go_wp2
          go_ret
          exact ⟨by rw [HTE.out]; rfl, HF.out⟩
        · have hz : (T == 0) = false := beq_eq_false_iff_ne.2 hT
          have HTT := Lib.hid hT
          clear hT
          go_wp2
          go_ret
          exact ⟨by rw [HTE.out, decide_eq_false HTT.out]; rfl, HF.out⟩
      · rw [two64_out hin] at h4
        have H4 := Lib.hid h4
        have HD : Hid (decide (total (sums L) = 0) = false) := decide_eq_false (fun h => hin (by rw [h]; unfold In64; omega))
        clear h4 hin
        go_wp2_with fail
        refine H4.out.mono ?_
        rintro e w5 ⟨rfl, rfl⟩
        go_wp2
        go_ret
        exact ⟨by rw [HD.out]; rfl, HF.out⟩
theorem legsE_cons (T : List Ac) (g : Lg) (r : List Lg) : legsE T (g :: r) = if legE T g = 0 then legsE (legS T g) r else legE T g := rfl
theorem legsS_cons (T : List Ac) (g : Lg) (r : List Lg) : legsS T (g :: r) = if legE T g = 0 then legsS (legS T g) r else T := rfl
def GvRel (w : World) (p m : Nat) (S : List Ac) (L : List Lg) (iv : Value) (wr : World) : Prop :=
  ∃ (k : Nat) (T : List Ac), k ≤ L.length ∧ iv = .int .i64 k ∧ ChS wr p m T ∧ Inv T ∧ Fr (At1 m) w wr ∧ legsE S L = legsE T (L.drop k) ∧ legsS S L = legsS T (L.drop k)
set_option maxRecDepth 100000 in
set_option maxHeartbeats 2000000 in
theorem vgive_any (p m : Nat) (S : List Ac) (F : Nat → Prop) (A : Option Addr) (c : Nat) (cells : List Value) (L : List Lg) (w : World) (h : ChS w p m S) (hI : Inv S) (hr : Rd w F 2 A L.length cells) (hm : ∀ k, F k → k ≠ m) (hE : Each RdLg 2 cells L) (hL : L.length ≤ 100) :
    Calls Tryz.prog 227 #[.pointer (some ⟨p, 0, none⟩), .slice A L.length c] w (DeedsE p m (legsE S L) (legsS S L) w) := by
  have HR := Lib.hid hr
  have HE := Lib.hid hE
  have HH := Lib.hid h
  have HI := Lib.hid hI
  have HM := Lib.hid hm
  have HRET : Hid (∀ n S' W, legsE S L = n → legsS S L = S' → ChS W p m S' → Fr (At1 m) w W → DeedsE p m (legsE S L) (legsS S L) w (.returned (.int .i64 n)) W) := fun n S' W h1 h2 h3 h4 => ⟨by rw [h1], by rw [h2]; exact h3, h4⟩
  clear hr hE h hI hm
  go_enter Tryz.func227, Tryz.ntmps227
  go_wp2
  go_loopw [12] (fun iv wr => GvRel w p m S L iv wr) (fun iv _ => L.length - (intOf iv).toNat)
  case atStart => exact ⟨0, S, Nat.zero_le _, rfl, HH.out, HI.out, Fr.refl _ _, rfl, rfl⟩
  case round =>
    obtain ⟨k, T, hk, rfl, hcT, hIT, hfr, hE1, hS1⟩ := hrel
    by_cases hlt : k < L.length
    · obtain ⟨ad, rfl, _, hok, q0, q1⟩ := lg_at (HR.out.fr (by omega) hfr fun k hk _ h => HM.out k hk h) HE.out k hlt hlt
      have hd : L.drop k = L[k] :: L.drop (k + 1) := List.drop_eq_getElem_cons hlt
      rw [hd] at hE1 hS1
      rw [legsE_cons] at hE1
      rw [legsS_cons] at hS1
      generalize L[k] = g at *
      have hleg : legE T g = if (getA T g.nm).isSome = false then 6 else if g.sum = -9223372036854775808 then 2 else actE (fun a => giveE a (-g.sum)) T g.nm := rfl
      have hlS : legE T g = 0 → legS T g = actS (fun a => giveE a (-g.sum)) (fun a => giveA a (-g.sum)) T g.nm := fun h => by unfold legS; rw [if_pos h]
      have hIg := inv_leg hIT g
      obtain ⟨nm, sm⟩ := g
      unfold Lg.ok In64 at hok
      unfold Lg.nm at hleg hlS
      simp only at q0 q1 hok hleg hlS
      obtain ⟨hsz, hs1, hs2⟩ := hok
      have HE1 := Lib.hid hE1
      have HS1 := Lib.hid hS1
      have HLEG := Lib.hid hleg
      have HLS := Lib.hid hlS
      have HIG := Lib.hid hIg
      have HFR := Lib.hid hfr
      have HCT := Lib.hid hcT
      have HIT := Lib.hid hIT
      have HSZ := Lib.hid hsz
      have hml := hcT.2.lt
      have hbx := Blk.new wr 152 #[.string nm, .int .i64 sm]
      have HBX := Lib.hid hbx
      have HGET : Hid (∀ W, ChS W p m T → Calls Tryz.prog 225 #[.pointer (some ⟨p, 0, none⟩), .string nm] W (GotC p m T nm.data.toList W)) := fun W hW => get_any p m T nm W hW HSZ.out HIT.out.len
      clear hE1 hS1 hleg hlS hIg hfr hcT hIT hsz hbx hd
      obtain ⟨V, hV⟩ : ∃ V, getV T nm.data.toList = V := ⟨_, rfl⟩
      cases hsome : (getA T nm.data.toList).isSome with
      | false =>
        have hg2 : ∀ W, ChS W p m T → Calls Tryz.prog 225 #[.pointer (some ⟨p, 0, none⟩), .string nm] W fun e w' => e = .returned (.tuple #[.agg #[.string ⟨V.name.toArray⟩, .int .i64 V.hv, .int .i64 V.st, .int .i64 V.lim], .int .i64 6]) ∧ ChS w' p m T ∧ Fr (At1 m) W w' := fun W hW =>
          (HGET.out W hW).mono fun e w' h => ⟨by rw [h.1, hV, hsome]; rfl, h.2⟩
        have HG2 := Lib.hid hg2
        have HN : Hid (legsE S L = 6 ∧ legsS S L = T) := by
          have h0 : legE T ⟨nm, sm⟩ = 6 := by rw [HLEG.out, hsome, if_pos rfl]
          exact ⟨by rw [HE1.out, if_neg (by rw [h0]; decide), h0], by rw [HS1.out, if_neg (by rw [h0]; decide)]⟩
        obtain ⟨nV, vV, sV, lV⟩ := V
        clear hg2 hV hsome HGET
        go_wp2_with fail
        refine (HG2.out _ (HCT.out.no ((Fr.refl _ _).alloc _))).mono ?_
        rintro e w3 ⟨rfl, hc3, hf3⟩
        have HC3 := Lib.hid hc3
        have HF3 := Lib.hid (Fr.trans (S := At1 m) ((Fr.refl _ _).alloc _) hf3)
        clear hc3 hf3
        go_wp2
        go_ret
        exact HRET.out 6 T _ HN.out.1 HN.out.2 (HC3.out.no ((Fr.refl _ _).alloc _)) ((HFR.out.trans HF3.out).alloc _)
      | true =>
        have hg2 : ∀ W, ChS W p m T → Calls Tryz.prog 225 #[.pointer (some ⟨p, 0, none⟩), .string nm] W fun e w' => e = .returned (.tuple #[.agg #[.string ⟨V.name.toArray⟩, .int .i64 V.hv, .int .i64 V.st, .int .i64 V.lim], .int .i64 0]) ∧ ChS w' p m T ∧ Fr (At1 m) W w' := fun W hW =>
          (HGET.out W hW).mono fun e w' h => ⟨by rw [h.1, hV, hsome]; rfl, h.2⟩
        have HG2 := Lib.hid hg2
        have HL2 : Hid (legE T ⟨nm, sm⟩ = if sm = -9223372036854775808 then 2 else actE (fun a => giveE a (-sm)) T nm.data.toList) := by
          show _ = _
          rw [HLEG.out, hsome, if_neg (by decide)]
        obtain ⟨nV, vV, sV, lV⟩ := V
        clear hg2 hV hsome HGET
        go_wp2_with fail
        refine (HG2.out _ (HCT.out.no ((Fr.refl _ _).alloc _))).mono ?_
        rintro e w3 ⟨rfl, hc3, hf3⟩
        have hmb : m ≠ wr.heap.size := by omega
        have hbx3 := (HBX.out.fr hf3 (fun h => hmb h.symm)).alloc (.cells #[.string ⟨nV.toArray⟩, .int .i64 vV, .int .i64 sV, .int .i64 lV] 124)
        have x0 := hbx3.cell 0
        have x1 := hbx3.cell 1
        simp only [List.getElem?_toArray, List.getElem?_cons_zero, List.getElem?_cons_succ] at x0 x1
        have HC3 := Lib.hid (hc3.no ((Fr.refl No _).alloc (.cells #[.string ⟨nV.toArray⟩, .int .i64 vV, .int .i64 sV, .int .i64 lV] 124)))
        have HF3 : Hid (Fr (At1 m) w (w3.alloc (.cells #[.string ⟨nV.toArray⟩, .int .i64 vV, .int .i64 sV, .int .i64 lV] 124))) := (HFR.out.trans (Fr.trans (S := At1 m) ((Fr.refl _ _).alloc _) hf3)).alloc _
        clear hc3 hf3 hbx3
        by_cases hmin : sm = -9223372036854775808
        · have HN : Hid (legsE S L = 2 ∧ legsS S L = T) := by
            have h0 : legE T ⟨nm, sm⟩ = 2 := by rw [HL2.out, if_pos hmin]
            exact ⟨by rw [HE1.out, if_neg (by rw [h0]; decide), h0], by rw [HS1.out, if_neg (by rw [h0]; decide)]⟩
          subst hmin
          go_wp2
          go_ret
          exact HRET.out 2 T _ HN.out.1 HN.out.2 HC3.out HF3.out
        · have hz : (sm == -9223372036854775808) = false := beq_eq_false_iff_ne.2 hmin
          have hL3 : legE T ⟨nm, sm⟩ = actE (fun a => giveE a (-sm)) T nm.data.toList := by rw [HL2.out, if_neg hmin]
          have hsm1 : -9223372036854775808 < sm := by omega
          have hGV := give_any p m T nm (-sm) _ HC3.out HSZ.out HIT.out.len HIT.out.ok (by unfold In64; omega)
          rw [← hL3] at hGV
          have HGV := Lib.hid hGV
          clear hmin hGV hL3
          by_cases h0 : legE T ⟨nm, sm⟩ = 0
          · have hgv := HGV.out
            rw [← HLS.out h0, h0] at hgv
            have HGV0 := Lib.hid hgv
            have HN : Hid (legsE S L = legsE (legS T ⟨nm, sm⟩) (L.drop (k + 1)) ∧ legsS S L = legsS (legS T ⟨nm, sm⟩) (L.drop (k + 1))) := ⟨by rw [HE1.out, if_pos h0], by rw [HS1.out, if_pos h0]⟩
            clear hgv h0 HGV
            go_wp2_with fail
            refine HGV0.out.mono ?_
            rintro e w4 ⟨rfl, hc4, hf4⟩
            have HC4 := Lib.hid hc4
            have HF4 := Lib.hid (HF3.out.trans hf4)
            clear hc4 hf4
            go_wp2
            go_roundw
            case rel => exact ⟨k + 1, _, by omega, by go_num, HC4.out, HIG.out, HF4.out, HN.out.1, HN.out.2⟩
            case measure => simp [intOf]; omega
          · have hlt0 : actS (fun a => giveE a (-sm)) (fun a => giveA a (-sm)) T nm.data.toList = T := by
              refine act_err ?_
              intro h
              rw [HL2.out, if_neg (by omega)] at h0
              exact h0 h
            have hgv := HGV.out
            rw [hlt0] at hgv
            have HN : Hid (legsE S L = legE T ⟨nm, sm⟩ ∧ legsS S L = T) := ⟨by rw [HE1.out, if_neg h0], by rw [HS1.out, if_neg h0]⟩
            have hne : (legE T ⟨nm, sm⟩ != 0) = true := by rw [bne_iff_ne]; exact h0
            have hne2 : (legE T ⟨nm, sm⟩ == 0) = false := beq_eq_false_iff_ne.2 h0
            have HGV0 := Lib.hid hgv
            clear hgv h0 HGV hlt0
            generalize legE T ⟨nm, sm⟩ = ev at *
            go_wp2_with fail
            refine HGV0.out.mono ?_
            rintro e w4 ⟨rfl, hc4, hf4⟩
            have HC4 := Lib.hid hc4
            have HF4 := Lib.hid (HF3.out.trans hf4)
            clear hc4 hf4
            go_wp2
            go_ret
            exact HRET.out ev T _ HN.out.1 HN.out.2 HC4.out HF4.out
    · obtain rfl : k = L.length := by omega
      rw [List.drop_length] at hE1 hS1
      have HFIN := Lib.hid (HRET.out 0 T wr hE1 hS1 hcT hfr)
      clear hE1 hS1 hcT hfr hIT
      go_wp2
      go_ret
      exact HFIN.out
end Go.Proofs.YtcpgamidimfflaaGreat
namespace Go.Proofs.YtcpgamidimfflaaGreat
open Go.RowKit Go.My Go.Maps
set_option linter.unusedSimpArgs false
set_option linter.unusedVariables false
attribute [local go_sem ↓] Go.wp_at_zero Go.wp_at_succ
theorem clone_any (m : Nat) (S : List Ac) (w : World) (h : MpS w m S) :
    Calls Tryz.prog 147 #[.map (some m)] w fun e w' => e = .returned (.map (some w.heap.size)) ∧ MpS w' w.heap.size S ∧ Fr No w w' ∧ w.heap.size < w'.heap.size :=
  (Go.Proofs.AnyW.maps_Clone_owns Tryz.clone147 _ _ m _ _ w h.1).mono fun e w' h' => ⟨h'.1, ⟨h'.2.1, h.2⟩, Fr.of_below h'.2.2.2 _, World.ownsMap.lt h'.2.1⟩
def MadeS (w : World) (S : List Ac) (e : Ending) (w' : World) : Prop := ∃ p m, e = .returned (.pointer (some ⟨p, 0, none⟩)) ∧ ChS w' p m S ∧ Fr No w w' ∧ w.heap.size ≤ p ∧ w.heap.size ≤ m
set_option maxRecDepth 100000 in
theorem copy_any (p m : Nat) (S : List Ac) (w : World) (h : ChS w p m S) : Calls Tryz.prog 103 #[.pointer (some ⟨p, 0, none⟩)] w (MadeS w S) := by
  have c0 := h.1.cell 0
  simp only [List.getElem?_toArray, List.getElem?_cons_zero] at c0
  have HCL := Lib.hid (clone_any m S w h.2)
  clear h
  go_enter Tryz.func103, Tryz.ntmps103
  go_wp2_with fail
  refine HCL.out.mono ?_
  rintro e w1 ⟨rfl, hm, hf, hlt⟩
  have HM := Lib.hid hm
  have HF := Lib.hid hf
  clear hm hf
  go_wp2
  go_ret
  exact ⟨_, _, rfl, ⟨Blk.new w1 186 #[.map (some w.heap.size)], HM.out.fr ((Fr.refl No _).alloc _) (fun h => h)⟩, HF.out.alloc _, by omega, Nat.le_refl _⟩
end Go.Proofs.YtcpgamidimfflaaGreat
namespace Go.Proofs.YtcpgamidimfflaaGreat
open Go.RowKit Go.My Go.Maps
set_option linter.unusedSimpArgs false
set_option linter.unusedVariables false
attribute [local go_sem ↓] Go.wp_at_zero Go.wp_at_succ
theorem rightB_six {L : List Lg} (h : rightB L = true) : L.length ≤ 6 := by
  unfold rightB at h
  simp only [Bool.and_eq_true, decide_eq_true_eq] at h
  exact h.1.1.2
set_option maxRecDepth 100000 in
set_option maxHeartbeats 1000000 in
theorem check_any (p m : Nat) (S : List Ac) (F : Nat → Prop) (A : Option Addr) (c : Nat) (cells : List Value) (L : List Lg) (w : World) (h : ChS w p m S) (hI : Inv S) (hr : Rd w F 2 A L.length cells) (hF : ∀ k, F k → k < w.heap.size) (hE : Each RdLg 2 cells L) (hL : L.length ≤ 100) :
    Calls Tryz.prog 226 #[.pointer (some ⟨p, 0, none⟩), .slice A L.length c] w fun e w' => e = .returned (.int .i64 (checkE S L)) ∧ Fr No w w' := by
  have HR1 := Lib.hid (right_any F A c cells L w hr hE)
  have HBL : Hid (∀ W, Fr No w W → Calls Tryz.prog 267 #[.slice A L.length c] W fun e w' => e = .returned (.bool (decide (total (sums L) = 0))) ∧ Fr No W w') := fun W hW => balance_any F A c cells L W (hr.fr (by omega) hW fun _ _ _ h => h) hE hL
  have HCP : Hid (∀ W, Fr No w W → Calls Tryz.prog 103 #[.pointer (some ⟨p, 0, none⟩)] W (MadeS W S)) := fun W hW => copy_any p m S W (h.no hW)
  have HGV : Hid (∀ W p2 m2, Fr No w W → ChS W p2 m2 S → w.heap.size ≤ m2 → Calls Tryz.prog 227 #[.pointer (some ⟨p2, 0, none⟩), .slice A L.length c] W (DeedsE p2 m2 (legsE S L) (legsS S L) W)) := fun W p2 m2 hW hc hm => vgive_any p2 m2 S F A c cells L W hc hI (hr.fr (by omega) hW fun _ _ _ h => h) (fun k hk => by have := hF k hk; omega) hE hL
  clear h hI hr hE hF
  cases hrb : rightB L with
  | false =>
    have HN : Hid (checkE S L = 1) := by show _ = _; unfold checkE; rw [if_pos hrb]
    rw [hrb] at HR1
    clear hrb
    go_enter Tryz.func226, Tryz.ntmps226
    go_wp2_with fail
    refine HR1.out.mono ?_
    rintro e w1 ⟨rfl, hf1⟩
    have HF1 := Lib.hid hf1
    clear hf1
    go_wp2
    go_ret
    exact ⟨by rw [HN.out]; rfl, HF1.out⟩
  | true =>
    rw [hrb] at HR1
    by_cases hT : total (sums L) = 0
    · have HN : Hid (checkE S L = legsE S L) := by show _ = _; unfold checkE; rw [if_neg (by rw [hrb]; decide), if_pos hT]
      have hd : decide (total (sums L) = 0) = true := decide_eq_true hT
      rw [hd] at HBL
      clear hrb hd hT
      go_enter Tryz.func226, Tryz.ntmps226
      go_wp2_with fail
      refine HR1.out.mono ?_
      rintro e w1 ⟨rfl, hf1⟩
      have HF1 := Lib.hid hf1
      clear hf1
      go_wp2_with fail
      refine (HBL.out _ HF1.out).mono ?_
      rintro e w2 ⟨rfl, hf2⟩
      have HF2 := Lib.hid (HF1.out.trans hf2)
      clear hf2
      go_wp2_with fail
      refine (HCP.out _ HF2.out).mono ?_
      rintro e w3 ⟨p2, m2, rfl, hc3, hf3, hp3, hm3⟩
      have hF3 := HF2.out.trans hf3
      have HF3 := Lib.hid hF3
      have hmw : w.heap.size ≤ m2 := by have := HF2.out.size; omega
      have HG := Lib.hid (HGV.out w3 p2 m2 hF3 hc3 hmw)
      clear hc3 hf3 hF3
      go_wp2_with fail
      refine HG.out.mono ?_
      rintro e w4 ⟨rfl, hc4, hf4⟩
      have HF4 : Hid (Fr No w w4) := HF3.out.trans' hf4 (fun i hi hlt => by have : i = m2 := hi; omega)
      clear hc4 hf4
      go_wp2
      go_ret
      exact ⟨by rw [HN.out]; rfl, HF4.out⟩
    · have HN : Hid (checkE S L = 8) := by show _ = _; unfold checkE; rw [if_neg (by rw [hrb]; decide), if_neg hT]
      have hd : decide (total (sums L) = 0) = false := decide_eq_false hT
      rw [hd] at HBL
      clear hrb hd hT
      go_enter Tryz.func226, Tryz.ntmps226
      go_wp2_with fail
      refine HR1.out.mono ?_
      rintro e w1 ⟨rfl, hf1⟩
      have HF1 := Lib.hid hf1
      clear hf1
      go_wp2_with fail
      refine (HBL.out _ HF1.out).mono ?_
      rintro e w2 ⟨rfl, hf2⟩
      have HF2 := Lib.hid (HF1.out.trans hf2)
      clear hf2
      go_wp2
      go_ret
      exact ⟨by rw [HN.out]; rfl, HF2.out⟩
theorem check_legs {S : List Ac} {L : List Lg} (h : checkE S L = 0) : legsE S L = 0 := by
  unfold checkE at h
  split at h
  · cases h
  · split at h
    · exact h
    · cases h
set_option maxRecDepth 100000 in
set_option maxHeartbeats 1000000 in
theorem make_any (p m : Nat) (S : List Ac) (F : Nat → Prop) (A : Option Addr) (c : Nat) (cells : List Value) (L : List Lg) (w : World) (h : ChS w p m S) (hI : Inv S) (hr : Rd w F 2 A L.length cells) (hF : ∀ k, F k → k < w.heap.size ∧ k ≠ m) (hE : Each RdLg 2 cells L) (hL : L.length ≤ 100) :
    Calls Tryz.prog 200 #[.pointer (some ⟨p, 0, none⟩), .slice A L.length c] w (DeedsE p m (checkE S L) (makeS S L) w) := by
  have HC := Lib.hid (check_any p m S F A c cells L w h hI hr (fun k hk => (hF k hk).1) hE hL)
  have HGV : Hid (∀ W, Fr No w W → Calls Tryz.prog 227 #[.pointer (some ⟨p, 0, none⟩), .slice A L.length c] W (DeedsE p m (legsE S L) (legsS S L) W)) := fun W hW => vgive_any p m S F A c cells L W (h.no hW) hI (hr.fr (by omega) hW fun _ _ _ h => h) (fun k hk => (hF k hk).2) hE hL
  have HH := Lib.hid h
  have HRET : Hid (∀ n S' W, checkE S L = n → makeS S L = S' → ChS W p m S' → Fr (At1 m) w W → DeedsE p m (checkE S L) (makeS S L) w (.returned (.int .i64 n)) W) := fun n S' W h1 h2 h3 h4 => ⟨by rw [h1], by rw [h2]; exact h3, h4⟩
  clear h hI hr hE hF
  by_cases h0 : checkE S L = 0
  · have HN : Hid (checkE S L = 0 ∧ makeS S L = legsS S L) := ⟨h0, by unfold makeS; rw [if_pos h0]⟩
    rw [h0] at HC
    rw [check_legs h0] at HGV
    clear h0
    go_enter Tryz.func200, Tryz.ntmps200
    go_wp2_with fail
    refine HC.out.mono ?_
    rintro e w1 ⟨rfl, hf1⟩
    have HF1 := Lib.hid hf1
    clear hf1
    go_wp2_with fail
    refine (HGV.out _ HF1.out).mono ?_
    rintro e w2 ⟨rfl, hc2, hf2⟩
    have HE := Lib.hid (HRET.out 0 _ _ HN.out.1 HN.out.2 hc2 ((HF1.out.mono fun _ _ h => False.elim h).trans hf2))
    clear hc2 hf2
    go_wp2
    go_ret
    exact HE.out
  · have hne : (checkE S L != 0) = true := by rw [bne_iff_ne]; exact h0
    have HN : Hid (makeS S L = S) := by show _ = _; unfold makeS; rw [if_neg h0]
    obtain ⟨ev, hev⟩ : ∃ ev, checkE S L = ev := ⟨_, rfl⟩
    rw [hev] at HC hne
    have HEV := Lib.hid hev
    clear h0 hev
    go_enter Tryz.func200, Tryz.ntmps200
    go_wp2_with fail
    refine HC.out.mono ?_
    rintro e w1 ⟨rfl, hf1⟩
    have HE := Lib.hid (HRET.out ev _ _ HEV.out HN.out (HH.out.no hf1) (hf1.mono fun _ _ h => False.elim h))
    clear hf1
    go_wp2
    go_ret
    exact HE.out
end Go.Proofs.YtcpgamidimfflaaGreat
