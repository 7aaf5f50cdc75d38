/- Contracts of package voucher: right, balance. -/
import Derived.Test.YtjbeaoabhhaiiaaGreatVouOpen
import Derived.Test.YtjbeaoabhhaiiaaGreatChartJ4
namespace Go.Proofs.YtjbeaoabhhaiiaaGreat
open Go.RowKit Go.My Go.Maps
set_option linter.unusedSimpArgs false
set_option linter.unusedVariables false
attribute [local go_sem ↓] Go.wp_at_zero Go.wp_at_succ

def unitD : DataW Unit := .agg []
def keysL (L : List Lg) : List Lit := L.map fun g => .string g.nm
theorem keysL_key (L : List Lg) : ∀ x ∈ keysL L, WideAt.IsKeyLit x := fun x hx => by
  unfold keysL at hx
  obtain ⟨g, _, rfl⟩ := List.mem_map.1 hx
  exact isKey_str _
theorem keysL_take {L : List Lg} {k : Nat} (hk : k < L.length) : keysL (L.take (k + 1)) = keysL (L.take k) ++ [.string L[k].nm] := by
  unfold keysL
  rw [List.take_succ_eq_append_getElem hk, List.map_append]
  rfl
/-- so many names as legs: each once -/
theorem add_len : ∀ (xs acc : List (List UInt8)), (acc.map Lit.string).Nodup → ((xs.map Lit.string).foldl addKey (acc.map Lit.string)).length ≤ acc.length + xs.length ∧ (((xs.map Lit.string).foldl addKey (acc.map Lit.string)).length = acc.length + xs.length ↔ (acc ++ xs).Nodup)
  | [], acc, h => by
    have h2 : acc.Nodup := (List.pairwise_map.1 h).imp fun {a b} hab e => hab (by rw [e])
    simp [h2]
  | x :: r, acc, h => by
    have h2 : acc.Nodup := (List.pairwise_map.1 h).imp fun {a b} hab e => hab (by rw [e])
    rw [List.map_cons, List.foldl_cons]
    unfold addKey
    have hany : (acc.map Lit.string).any (fun y => y.sameKey (.string x)) = acc.contains x := by
      rw [List.any_map]
      induction acc with
      | nil => rfl
      | cons a t ih =>
        rw [List.any_cons, List.contains_cons, ih (List.Pairwise.of_cons h) (List.Pairwise.of_cons h2)]
        show ((a == x) || _) = _
        rw [show (a == x) = (x == a) from Bool.beq_comm]
    rw [hany]
    by_cases hx : acc.contains x = true
    · rw [if_pos hx]
      obtain ⟨h3, h4⟩ := add_len r acc h
      unfold addKey at h3 h4
      refine ⟨by rw [List.length_cons]; omega, ?_⟩
      constructor
      · intro h5
        rw [List.length_cons] at h5
        omega
      · intro h5
        exfalso
        rw [List.nodup_append] at h5
        exact h5.2.2 x (by simpa using hx) x List.mem_cons_self rfl
    · rw [if_neg hx]
      have hx' : x ∉ acc := by simpa using hx
      have e : acc.map Lit.string ++ [Lit.string x] = (acc ++ [x]).map Lit.string := by simp
      have hn : ((acc ++ [x]).map Lit.string).Nodup := by
        have hp : (acc ++ [x]).Nodup := by
          rw [List.nodup_append]
          exact ⟨h2, by simp, fun a ha b hb => by rw [List.mem_singleton.1 hb]; rintro rfl; exact hx' ha⟩
        exact List.pairwise_map.2 (hp.imp fun {a b} hab e => hab (by injection e))
      rw [e]
      obtain ⟨h3, h4⟩ := add_len r (acc ++ [x]) hn
      unfold addKey at h3 h4
      rw [List.length_append, List.length_singleton] at h3 h4
      refine ⟨by rw [List.length_cons]; omega, ?_⟩
      rw [List.length_cons, show acc.length + (r.length + 1) = acc.length + 1 + r.length by omega, h4, List.append_assoc]
      rfl
theorem size_keys (L : List Lg) : (Maps.size (setOf unitD (keysL L)) = L.length) ↔ (L.map Lg.nm).Nodup := by
  rw [size_setOf unitD (keysL L) (keysL_key L)]
  have e : keysL L = (L.map Lg.nm).map Lit.string := by simp [keysL]
  obtain ⟨_, h⟩ := add_len (L.map Lg.nm) [] (by simp)
  rw [e]
  simpa using h

theorem owns_fr {F : Nat → Prop} {P : Program} {k : TypeId} {R : Value → Option (DataW Unit × List MemPlace)} {b n : Nat} {D : DataW Unit} {w w' : World} (h : w.ownsMap P k R b n D) (hf : Fr F w w') (hn : ¬ F b) : w'.ownsMap P k R b n D := by
  obtain ⟨es, clock, hb, r⟩ := h
  exact ⟨es, clock, (hf.block b (Array.getElem?_eq_some_iff.1 hb).1 hn).trans hb, r⟩
def RtRel (w : World) (m : Nat) (L : List Lg) (iv : Value) (wr : World) : Prop :=
  ∃ k : Nat, k ≤ L.length ∧ iv = .int .i64 k ∧ wr.ownsMap Tryz.prog 9 unitElem m k (setOf unitD (keysL (L.take k))) ∧ Fr No w wr ∧ (L.take k).all okLg = true
theorem rightB_end {L : List Lg} (h : 2 ≤ L.length ∧ L.length ≤ 6) (ha : L.all okLg = true) : rightB L = decide (Maps.size (setOf unitD (keysL L)) = L.length) := by
  unfold rightB
  have e : L.all (fun g => nameB g.nm && decide (g.sum ≠ 0)) = true := ha
  rw [e, decide_eq_true h.1, decide_eq_true h.2]
  simp only [Bool.true_and]
  exact decide_eq_decide.2 (size_keys L).symm

set_option maxRecDepth 100000 in
set_option maxHeartbeats 2000000 in
theorem right_any (F : Nat → Prop) (A : Option Addr) (c : Nat) (cells : List Value) (L : List Lg) (w : World) (hr : Rd w F 2 A L.length cells) (hE : Each RdLg 2 cells L) :
    Calls Tryz.prog 157 #[.slice A L.length c] w fun e w' => e = .returned (.bool (rightB L)) ∧ Fr No w w' := by
  by_cases hlen : 2 ≤ L.length ∧ L.length ≤ 6
  · have HR := Lib.hid hr
    have HE := Lib.hid hE
    have HLN := Lib.hid hlen
    obtain ⟨hl2, hl6⟩ := hlen
    have hl2' : ¬ (L.length : Int) < 2 := by omega
    have hl6' : ¬ (6 : Int) < (L.length : Int) := by omega
    have hmm := @run_makeMap Tryz.prog
    have HM0 : Hid ((w.alloc (.map #[] 0)).ownsMap Tryz.prog 9 unitElem w.heap.size 0 (setOf unitD (keysL (L.take 0)))) := World.ownsMap_made _ _ _ _
    have HFM : Hid (Fr No w (w.alloc (.map #[] 0))) := (Fr.refl _ _).alloc _
    clear hr hE
    go_enter Tryz.func157, Tryz.ntmps157
    go_wp2
    clear hmm
    go_loopw [17] (fun iv wr => RtRel w w.heap.size L iv wr) (fun iv _ => L.length - (intOf iv).toNat)
    case atStart => exact ⟨0, Nat.zero_le _, rfl, HM0.out, HFM.out, rfl⟩
    case round =>
      obtain ⟨k, hk, rfl, hown, hfr, hall⟩ := hrel
      have HOWN := Lib.hid hown
      have HFR := Lib.hid hfr
      have HALL := Lib.hid hall
      by_cases hlt : k < L.length
      · obtain ⟨ad, rfl, _, hok, q0, q1⟩ := lg_at (HR.out.fr (by omega) hfr fun _ _ _ h => h) HE.out k hlt hlt
        have HBAD : Hid (okLg L[k] = false → rightB L = false) := rightB_bad hlt
        have HNX : Hid (okLg L[k] = true → (L.take (k + 1)).all okLg = true) := fun h => by
          rw [List.take_succ_eq_append_getElem hlt, List.all_append, HALL.out]
          simp [h]
        have HKY : Hid (setOf unitD (keysL (L.take (k + 1))) = (setOf unitD (keysL (L.take k))).put (.string L[k].nm) unitD) := by
          show _ = _
          rw [keysL_take hlt, setOf_snoc]
        generalize L[k] = g at *
        obtain ⟨nm, sm⟩ := g
        unfold Lg.ok at hok
        simp only at q0 q1 hok
        have HNM := Lib.hid fun W => name_any nm W hok.1
        have HSZ := Lib.hid hok.1
        have hbx := Blk.new wr 116 #[.string nm, .int .i64 sm]
        have HBX := Lib.hid hbx
        clear hown hfr hall hok hbx
        go_wp2_with fail
        refine (HNM.out _).mono ?_
        rintro e w3 ⟨rfl, hb3⟩
        have hbx3 := HBX.out.below hb3 (by simp)
        have x0 := hbx3.cell 0
        have x1 := hbx3.cell 1
        simp only [List.getElem?_toArray, List.getElem?_cons_zero, List.getElem?_cons_succ] at x0 x1
        have HF3 : Hid (Fr No wr w3) := Fr.trans ((Fr.refl _ _).alloc _) (Fr.of_below hb3 _)
        have hb3l := hbx3.lt
        clear hb3 hbx3
        cases hnb : nameB nm.data.toList with
        | false =>
          have HB : Hid (rightB L = false) := HBAD.out (by unfold okLg Lg.nm; simp only; rw [hnb]; rfl)
          clear hnb
          go_wp2
          go_ret
          exact ⟨by rw [HB.out]; rfl, HFR.out.trans HF3.out⟩
        | true =>
          by_cases hs0 : sm = 0
          · have HB : Hid (rightB L = false) := HBAD.out (by unfold okLg Lg.nm; simp only; rw [hnb, hs0]; rfl)
            subst hs0
            clear hnb
            go_wp2
            go_ret
            exact ⟨by rw [HB.out]; rfl, HFR.out.trans HF3.out⟩
          · have hz : (sm == 0) = false := beq_eq_false_iff_ne.2 hs0
            have HA : Hid ((L.take (k + 1)).all okLg = true) := HNX.out (by unfold okLg Lg.nm; simp only; rw [hnb]; simp [hs0])
            have HO3 := Lib.hid (owns_fr HOWN.out HF3.out (fun h => h))
            clear hnb hs0
            go_wp2_with (at_mapUpdate; refine wpList_mapUpdate_own _ rfl (.tmp 30) (.tmp 32) (.tmp 33) 227 rfl 9 228 law Tryz.underlying227 unitElem w.heap.size _ _ rfl HO3.out (by unfold maxLen; omega) (.string nm) _ _ rfl rfl (key_mk nm HSZ.out) _ _ unitElem_mk ?_; intro w4 ho4 hg4; go_frame)
            have HO4 := Lib.hid ho4
            have HG4 := Lib.hid (fr_grown hg4)
            clear ho4 hg4
            go_roundw
            case rel =>
              refine ⟨k + 1, by omega, by go_num, ?_, ?_, HA.out⟩
              · rw [HKY.out]
                exact HO4.out
              · exact (HFR.out.trans HF3.out).trans' HG4.out (fun i hi hlt => by have : i = w.heap.size := hi; omega)
            case measure => simp [intOf]; omega
      · obtain rfl : k = L.length := by omega
        have hlm := fun ty => HOWN.out.len Tryz.underlying227 ty
        rw [List.take_length] at hlm hall
        have HEND := Lib.hid (rightB_end HLN.out hall)
        generalize Maps.size (setOf unitD (keysL L)) = z at *
        clear hown hfr hall
        by_cases hzz : z = L.length
        · subst hzz
          go_wp2
          go_ret
          exact ⟨by rw [HEND.out]; simp, HFR.out⟩
        · have hz1 : ((z : Int) == (L.length : Int)) = false := by rw [beq_eq_false_iff_ne]; omega
          have hz2 : (z == L.length) = false := beq_eq_false_iff_ne.2 hzz
          go_wp2
          go_ret
          exact ⟨by rw [HEND.out, decide_eq_false hzz]; rfl, HFR.out⟩
  · have HB := Lib.hid (rightB_len hlen)
    by_cases h2 : 2 ≤ L.length
    · have h6 : (6 : Int) < (L.length : Int) := by omega
      have h2' : ¬ (L.length : Int) < 2 := by omega
      clear hlen hr hE
      go_enter Tryz.func157, Tryz.ntmps157
      go_wp2
      go_ret
      exact ⟨by rw [HB.out]; rfl, Fr.refl _ _⟩
    · have h2' : (L.length : Int) < 2 := by omega
      clear hlen hr hE
      go_enter Tryz.func157, Tryz.ntmps157
      go_wp2
      go_ret
      exact ⟨by rw [HB.out]; rfl, Fr.refl _ _⟩
end Go.Proofs.YtjbeaoabhhaiiaaGreat
