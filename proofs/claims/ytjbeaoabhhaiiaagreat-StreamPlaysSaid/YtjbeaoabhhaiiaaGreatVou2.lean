/- Contracts of package voucher: balance, give. -/
import Derived.Test.YtjbeaoabhhaiiaaGreatVou1
namespace Go.Proofs.YtjbeaoabhhaiiaaGreat
open Go.RowKit Go.My Go.Maps
set_option linter.unusedSimpArgs false
set_option linter.unusedVariables false
attribute [local go_sem ↓] Go.wp_at_zero Go.wp_at_succ

theorem sums_take {L : List Lg} {k : Nat} (hk : k < L.length) : sums (L.take (k + 1)) = sums (L.take k) ++ [L[k].sum] := by
  unfold sums
  rw [List.take_succ_eq_append_getElem hk, List.map_append]
  rfl
theorem sums_length (L : List Lg) : (sums L).length = L.length := by simp [sums]
theorem sums_in {L : List Lg} (h : ∀ g ∈ L, g.ok) : ∀ x ∈ sums L, In64 x := fun x hx => by
  unfold sums at hx
  obtain ⟨g, hg, rfl⟩ := List.mem_map.1 hx
  exact (h g hg).2
theorem each_ok {cells : List Value} {L : List Lg} (hE : Each RdLg 2 cells L) : ∀ g ∈ L, g.ok := fun g hg => by
  obtain ⟨k, hk, rfl⟩ := List.getElem_of_mem hg
  exact (each_nth hE k hk).2
def BalRel (w : World) (L : List Lg) (lv iv : Value) (wr : World) : Prop :=
  ∃ k : Nat, k ≤ L.length ∧ iv = .int .i64 k ∧ Own wr 2 1 lv k (is_ (sums (L.take k))) ∧ Fr No w wr ∧ Newer w.heap.size none lv.ownBlock

set_option maxRecDepth 100000 in
set_option maxHeartbeats 1000000 in
theorem balance_any (F : Nat → Prop) (A : Option Addr) (c : Nat) (cells : List Value) (L : List Lg) (w : World) (hr : Rd w F 2 A L.length cells) (hE : Each RdLg 2 cells L) (hL : L.length ≤ 100) :
    Calls Tryz.prog 158 #[.slice A L.length c] w fun e w' => e = .returned (.bool (decide (total (sums L) = 0))) ∧ Fr No w w' := by
  have HR := Lib.hid hr
  have HE := Lib.hid hE
  have HNB : Hid (∀ (W : World) o cs, ((W.alloc o).alloc (.cells cs 2)).heap[W.heap.size + 1]? = some (.cells cs 2 (0, 0))) := fun W o cs => by
    have := heap_alloc_new (W.alloc o) (.cells cs 2)
    rw [World.size_alloc] at this
    exact this
  clear hr hE
  go_enter Tryz.func158, Tryz.ntmps158
  go_wp2
  go_loopw [3, 10] (fun lv iv wr => BalRel w L lv iv wr) (fun _ iv _ => L.length - (intOf iv).toNat)
  case atStart => exact ⟨0, Nat.zero_le _, rfl, Own.nil _ _ _, Fr.refl _ _, .inl rfl⟩
  case round =>
    obtain ⟨k, hk, rfl, hown, hfr, hnew⟩ := hrel
    by_cases hlt : k < L.length
    · obtain ⟨ad, rfl, _, _, q0, q1⟩ := lg_at (HR.out.fr (by omega) hfr fun _ _ _ h => h) HE.out k hlt hlt
      have E : Hid (is_ (sums (L.take (k + 1))) = is_ (sums (L.take k)) ++ [.int .i64 L[k].sum]) := by
        show _ = _
        rw [sums_take hlt, is_append]
        rfl
      have hX : Hid (k + 1 ≤ maxLen ∧ (k + 1) * 8 ≤ 140737488355328) := by
        refine ⟨?_, ?_⟩ <;> (try simp only [maxLen]) <;> omega
      generalize L[k] = g at *
      obtain ⟨nm, sm⟩ := g
      simp only at q0 q1 E
      have HOWN := Lib.hid hown
      have HFR := Lib.hid hfr
      have HNEW := Lib.hid hnew
      clear hown hfr hnew
      go_wp2_with (at_builtin; refine wpList_app _ rfl (.tmp 14) (.tmp 17) 184 184 rfl elI ((HOWN.out.alloc _).alloc _) rfl (Src.of_new (wr.heap.size + 1) (HNB.out _ _ _) Tryz.underlying184 rfl (by simp [Value.oneCell'])) rfl hX.out.1 hX.out.2 ?_; intro v1 w3 hown3 hfr3 hnew3)
      go_roundw
      case rel =>
        refine ⟨k + 1, by omega, by go_num, ?_, ?_, ?_⟩
        · rw [E.out]
          exact hown3
        · exact fr_no ((HFR.out.alloc _).alloc _) HNEW.out hfr3
        · exact HNEW.out.trans (Newer.of hnew3) (by have := HFR.out.size; simp; omega)
      case measure => simp [intOf]; omega
    · obtain rfl : k = L.length := by omega
      rw [List.take_length] at hown
      obtain ⟨A4, c4, rfl, hl4, hc4⟩ := hown.form
      have h4 := total_any _ A4 c4 (sums L) wr (by rw [sums_length]; exact hown.rd) (sums_in (each_ok HE.out)) (by rw [sums_length]; omega)
      rw [sums_length] at h4
      have HF := Lib.hid hfr
      clear hown hfr hnew
      by_cases hin : In64 (total (sums L))
      · rw [two64_in hin] at h4
        have H4 := Lib.hid h4
        obtain ⟨T, hTe⟩ : ∃ T, total (sums L) = T := ⟨_, rfl⟩
        rw [hTe] at H4
        have HTE := Lib.hid hTe
        clear h4 hin hTe
        go_wp2_with fail
        refine H4.out.mono ?_
        rintro e w5 ⟨rfl, rfl⟩
        by_cases hT : T = 0
        · subst hT
          go_wp2
          go_ret
          exact ⟨by rw [HTE.out]; rfl, HF.out⟩
        · have hz : (T == 0) = false := beq_eq_false_iff_ne.2 hT
          have HTT := Lib.hid hT
          clear hT
          go_wp2
          go_ret
          exact ⟨by rw [HTE.out, decide_eq_false HTT.out]; rfl, HF.out⟩
      · rw [two64_out hin] at h4
        have H4 := Lib.hid h4
        have HD : Hid (decide (total (sums L) = 0) = false) := decide_eq_false (fun h => hin (by rw [h]; unfold In64; omega))
        clear h4 hin
        go_wp2_with fail
        refine H4.out.mono ?_
        rintro e w5 ⟨rfl, rfl⟩
        go_wp2
        go_ret
        exact ⟨by rw [HD.out]; rfl, HF.out⟩

theorem legsE_cons (T : List Ac) (g : Lg) (r : List Lg) : legsE T (g :: r) = if legE T g = 0 then legsE (legS T g) r else legE T g := rfl
theorem legsS_cons (T : List Ac) (g : Lg) (r : List Lg) : legsS T (g :: r) = if legE T g = 0 then legsS (legS T g) r else T := rfl
def GvRel (w : World) (p m : Nat) (S : List Ac) (L : List Lg) (iv : Value) (wr : World) : Prop :=
  ∃ (k : Nat) (T : List Ac), k ≤ L.length ∧ iv = .int .i64 k ∧ ChS wr p m T ∧ Inv T ∧ Fr (At1 m) w wr ∧ legsE S L = legsE T (L.drop k) ∧ legsS S L = legsS T (L.drop k)

set_option maxRecDepth 100000 in
set_option maxHeartbeats 2000000 in
theorem vgive_any (p m : Nat) (S : List Ac) (F : Nat → Prop) (A : Option Addr) (c : Nat) (cells : List Value) (L : List Lg) (w : World) (h : ChS w p m S) (hI : Inv S) (hr : Rd w F 2 A L.length cells) (hm : ∀ k, F k → k ≠ m) (hE : Each RdLg 2 cells L) (hL : L.length ≤ 100) :
    Calls Tryz.prog 138 #[.pointer (some ⟨p, 0, none⟩), .slice A L.length c] w (DeedsE p m (legsE S L) (legsS S L) w) := by
  have HR := Lib.hid hr
  have HE := Lib.hid hE
  have HH := Lib.hid h
  have HI := Lib.hid hI
  have HM := Lib.hid hm
  have HRET : Hid (∀ n S' W, legsE S L = n → legsS S L = S' → ChS W p m S' → Fr (At1 m) w W → DeedsE p m (legsE S L) (legsS S L) w (.returned (.int .i64 n)) W) := fun n S' W h1 h2 h3 h4 => ⟨by rw [h1], by rw [h2]; exact h3, h4⟩
  clear hr hE h hI hm
  go_enter Tryz.func138, Tryz.ntmps138
  go_wp2
  go_loopw [12] (fun iv wr => GvRel w p m S L iv wr) (fun iv _ => L.length - (intOf iv).toNat)
  case atStart => exact ⟨0, S, Nat.zero_le _, rfl, HH.out, HI.out, Fr.refl _ _, rfl, rfl⟩
  case round =>
    obtain ⟨k, T, hk, rfl, hcT, hIT, hfr, hE1, hS1⟩ := hrel
    by_cases hlt : k < L.length
    · obtain ⟨ad, rfl, _, hok, q0, q1⟩ := lg_at (HR.out.fr (by omega) hfr fun k hk _ h => HM.out k hk h) HE.out k hlt hlt
      have hd : L.drop k = L[k] :: L.drop (k + 1) := List.drop_eq_getElem_cons hlt
      rw [hd] at hE1 hS1
      rw [legsE_cons] at hE1
      rw [legsS_cons] at hS1
      generalize L[k] = g at *
      have hleg : legE T g = if (getA T g.nm).isSome = false then 6 else if g.sum = -9223372036854775808 then 2 else actE (fun a => giveE a (-g.sum)) T g.nm := rfl
      have hlS : legE T g = 0 → legS T g = actS (fun a => giveE a (-g.sum)) (fun a => giveA a (-g.sum)) T g.nm := fun h => by unfold legS; rw [if_pos h]
      have hIg := inv_leg hIT g
      obtain ⟨nm, sm⟩ := g
      unfold Lg.ok In64 at hok
      unfold Lg.nm at hleg hlS
      simp only at q0 q1 hok hleg hlS
      obtain ⟨hsz, hs1, hs2⟩ := hok
      have HE1 := Lib.hid hE1
      have HS1 := Lib.hid hS1
      have HLEG := Lib.hid hleg
      have HLS := Lib.hid hlS
      have HIG := Lib.hid hIg
      have HFR := Lib.hid hfr
      have HCT := Lib.hid hcT
      have HIT := Lib.hid hIT
      have HSZ := Lib.hid hsz
      have hml := hcT.2.lt
      have hbx := Blk.new wr 116 #[.string nm, .int .i64 sm]
      have HBX := Lib.hid hbx
      have HGET : Hid (∀ W, ChS W p m T → Calls Tryz.prog 136 #[.pointer (some ⟨p, 0, none⟩), .string nm] W (GotC p m T nm.data.toList W)) := fun W hW => get_any p m T nm W hW HSZ.out HIT.out.len
      clear hE1 hS1 hleg hlS hIg hfr hcT hIT hsz hbx hd
      obtain ⟨V, hV⟩ : ∃ V, getV T nm.data.toList = V := ⟨_, rfl⟩
      cases hsome : (getA T nm.data.toList).isSome with
      | false =>
        have hg2 : ∀ W, ChS W p m T → Calls Tryz.prog 136 #[.pointer (some ⟨p, 0, none⟩), .string nm] W fun e w' => e = .returned (.tuple #[.agg #[.string ⟨V.name.toArray⟩, .int .i64 V.hv, .int .i64 V.st, .int .i64 V.lim], .int .i64 6]) ∧ ChS w' p m T ∧ Fr (At1 m) W w' := fun W hW =>
          (HGET.out W hW).mono fun e w' h => ⟨by rw [h.1, hV, hsome]; rfl, h.2⟩
        have HG2 := Lib.hid hg2
        have HN : Hid (legsE S L = 6 ∧ legsS S L = T) := by
          have h0 : legE T ⟨nm, sm⟩ = 6 := by rw [HLEG.out, hsome, if_pos rfl]
          exact ⟨by rw [HE1.out, if_neg (by rw [h0]; decide), h0], by rw [HS1.out, if_neg (by rw [h0]; decide)]⟩
        obtain ⟨nV, vV, sV, lV⟩ := V
        clear hg2 hV hsome HGET
        go_wp2_with fail
        refine (HG2.out _ (HCT.out.no ((Fr.refl _ _).alloc _))).mono ?_
        rintro e w3 ⟨rfl, hc3, hf3⟩
        have HC3 := Lib.hid hc3
        have HF3 := Lib.hid (Fr.trans (S := At1 m) ((Fr.refl _ _).alloc _) hf3)
        clear hc3 hf3
        go_wp2
        go_ret
        exact HRET.out 6 T _ HN.out.1 HN.out.2 (HC3.out.no ((Fr.refl _ _).alloc _)) ((HFR.out.trans HF3.out).alloc _)
      | true =>
        have hg2 : ∀ W, ChS W p m T → Calls Tryz.prog 136 #[.pointer (some ⟨p, 0, none⟩), .string nm] W fun e w' => e = .returned (.tuple #[.agg #[.string ⟨V.name.toArray⟩, .int .i64 V.hv, .int .i64 V.st, .int .i64 V.lim], .int .i64 0]) ∧ ChS w' p m T ∧ Fr (At1 m) W w' := fun W hW =>
          (HGET.out W hW).mono fun e w' h => ⟨by rw [h.1, hV, hsome]; rfl, h.2⟩
        have HG2 := Lib.hid hg2
        have HL2 : Hid (legE T ⟨nm, sm⟩ = if sm = -9223372036854775808 then 2 else actE (fun a => giveE a (-sm)) T nm.data.toList) := by
          show _ = _
          rw [HLEG.out, hsome, if_neg (by decide)]
        obtain ⟨nV, vV, sV, lV⟩ := V
        clear hg2 hV hsome HGET
        go_wp2_with fail
        refine (HG2.out _ (HCT.out.no ((Fr.refl _ _).alloc _))).mono ?_
        rintro e w3 ⟨rfl, hc3, hf3⟩
        have hmb : m ≠ wr.heap.size := by omega
        have hbx3 := (HBX.out.fr hf3 (fun h => hmb h.symm)).alloc (.cells #[.string ⟨nV.toArray⟩, .int .i64 vV, .int .i64 sV, .int .i64 lV] 80)
        have x0 := hbx3.cell 0
        have x1 := hbx3.cell 1
        simp only [List.getElem?_toArray, List.getElem?_cons_zero, List.getElem?_cons_succ] at x0 x1
        have HC3 := Lib.hid (hc3.no ((Fr.refl No _).alloc (.cells #[.string ⟨nV.toArray⟩, .int .i64 vV, .int .i64 sV, .int .i64 lV] 80)))
        have HF3 : Hid (Fr (At1 m) w (w3.alloc (.cells #[.string ⟨nV.toArray⟩, .int .i64 vV, .int .i64 sV, .int .i64 lV] 80))) := (HFR.out.trans (Fr.trans (S := At1 m) ((Fr.refl _ _).alloc _) hf3)).alloc _
        clear hc3 hf3 hbx3
        by_cases hmin : sm = -9223372036854775808
        · have HN : Hid (legsE S L = 2 ∧ legsS S L = T) := by
            have h0 : legE T ⟨nm, sm⟩ = 2 := by rw [HL2.out, if_pos hmin]
            exact ⟨by rw [HE1.out, if_neg (by rw [h0]; decide), h0], by rw [HS1.out, if_neg (by rw [h0]; decide)]⟩
          subst hmin
          go_wp2
          go_ret
          exact HRET.out 2 T _ HN.out.1 HN.out.2 HC3.out HF3.out
        · have hz : (sm == -9223372036854775808) = false := beq_eq_false_iff_ne.2 hmin
          have hL3 : legE T ⟨nm, sm⟩ = actE (fun a => giveE a (-sm)) T nm.data.toList := by rw [HL2.out, if_neg hmin]
          have hsm1 : -9223372036854775808 < sm := by omega
          have hGV := give_any p m T nm (-sm) _ HC3.out HSZ.out HIT.out.len HIT.out.ok (by unfold In64; omega)
          rw [← hL3] at hGV
          have HGV := Lib.hid hGV
          clear hmin hGV hL3
          by_cases h0 : legE T ⟨nm, sm⟩ = 0
          · have hgv := HGV.out
            rw [← HLS.out h0, h0] at hgv
            have HGV0 := Lib.hid hgv
            have HN : Hid (legsE S L = legsE (legS T ⟨nm, sm⟩) (L.drop (k + 1)) ∧ legsS S L = legsS (legS T ⟨nm, sm⟩) (L.drop (k + 1))) := ⟨by rw [HE1.out, if_pos h0], by rw [HS1.out, if_pos h0]⟩
            clear hgv h0 HGV
            go_wp2_with fail
            refine HGV0.out.mono ?_
            rintro e w4 ⟨rfl, hc4, hf4⟩
            have HC4 := Lib.hid hc4
            have HF4 := Lib.hid (HF3.out.trans hf4)
            clear hc4 hf4
            go_wp2
            go_roundw
            case rel => exact ⟨k + 1, _, by omega, by go_num, HC4.out, HIG.out, HF4.out, HN.out.1, HN.out.2⟩
            case measure => simp [intOf]; omega
          · have hlt0 : actS (fun a => giveE a (-sm)) (fun a => giveA a (-sm)) T nm.data.toList = T := by
              refine act_err ?_
              intro h
              rw [HL2.out, if_neg (by omega)] at h0
              exact h0 h
            have hgv := HGV.out
            rw [hlt0] at hgv
            have HN : Hid (legsE S L = legE T ⟨nm, sm⟩ ∧ legsS S L = T) := ⟨by rw [HE1.out, if_neg h0], by rw [HS1.out, if_neg h0]⟩
            have hne : (legE T ⟨nm, sm⟩ != 0) = true := by rw [bne_iff_ne]; exact h0
            have hne2 : (legE T ⟨nm, sm⟩ == 0) = false := beq_eq_false_iff_ne.2 h0
            have HGV0 := Lib.hid hgv
            clear hgv h0 HGV hlt0
            generalize legE T ⟨nm, sm⟩ = ev at *
            go_wp2_with fail
            refine HGV0.out.mono ?_
            rintro e w4 ⟨rfl, hc4, hf4⟩
            have HC4 := Lib.hid hc4
            have HF4 := Lib.hid (HF3.out.trans hf4)
            clear hc4 hf4
            go_wp2
            go_ret
            exact HRET.out ev T _ HN.out.1 HN.out.2 HC4.out HF4.out
    · obtain rfl : k = L.length := by omega
      rw [List.drop_length] at hE1 hS1
      have HFIN := Lib.hid (HRET.out 0 T wr hE1 hS1 hcT hfr)
      clear hE1 hS1 hcT hfr hIT
      go_wp2
      go_ret
      exact HFIN.out
end Go.Proofs.YtjbeaoabhhaiiaaGreat
