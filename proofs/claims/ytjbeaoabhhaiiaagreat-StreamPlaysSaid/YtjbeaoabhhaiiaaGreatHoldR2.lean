/- The document's own holds: cut, Free, Put. -/
import Derived.Test.YtjbeaoabhhaiiaaGreatHoldR1
import Derived.Test.YtjbeaoabhhaiiaaGreatChartJ3
import Derived.Deep.RegionHeldLaw
namespace Go.Proofs.YtjbeaoabhhaiiaaGreat
open Go.RowKit Go.My Go.Maps
set_option linter.unusedSimpArgs false
set_option linter.unusedVariables false
attribute [local go_sem ↓] Go.wp_at_zero Go.wp_at_succ

theorem rfh_mk {w : World} {r n c : Nat} {H : List Hd} {A : Option Addr} (hn : n = H.length) (hb : Blk w r 125 #[.slice A n c]) (hc : n ≤ c) (hm : c ≤ maxLen) (ho : Own w 129 3 (.slice A n c) n (hds H)) : RfH w r H := by
  subst hn
  exact ⟨A, c, hb, hc, hm, ho⟩
theorem rd_noR {a b : World} {F : Nat → Prop} {size n : Nat} {A : Option Addr} {xs : List Value} (h : Rd a F size A n xs) (hs : 0 < size) (hf : Fr No a b) : Rd b F size A n xs := h.fr hs hf fun _ _ _ h => h
def CutR (r : Nat) (H : List Hd) (w : World) (e : Ending) (w' : World) : Prop := e = .returned (.tuple #[]) ∧ RfH w' r H ∧ Fr (At1 r) w w'
set_option maxRecDepth 100000 in
set_option maxHeartbeats 1000000 in
theorem rcut_any (r : Nat) (H : List Hd) (k : Nat) (w : World) (h : RfH w r H) (hk : k < H.length) (hH : H.length < 1000) :
    Calls Tryz.prog 83 #[.pointer (some ⟨r, 0, none⟩), .int .i64 (k : Int)] w (CutR r (H.take k ++ H.drop (k + 1)) w) := by
  obtain ⟨A, c, hb, h1, h2, ho⟩ := h
  have c0 := hb.cell 0
  have f0 := hb.frozen 0
  simp only [List.getElem?_toArray, List.getElem?_cons_zero] at c0
  have HB := Lib.hid hb
  have hrd := ho.rd
  have hrdT : Rd w (fun k' => (Value.slice A H.length c).ownBlock = some k') 3 A k (hds (H.take k)) := by
    have := hrd.take (k := k) (by omega)
    rwa [hds_take H k (by omega)] at this
  obtain ⟨X, hX⟩ : ∃ X, X = if c = k + 1 then A else A.map (·.add ((k + 1) * 3)) := ⟨_, rfl⟩
  have hrdD : Rd w (fun k' => (Value.slice A H.length c).ownBlock = some k') 3 X (H.length - (k + 1)) (hds (H.drop (k + 1))) := by
    have := hrd.cut (k := k + 1) (by omega) h1
    rw [hds_drop H (k + 1) (by omega)] at this
    rwa [hX]
  have HST : Hid (∀ W c', Fr No w W → Src Tryz.prog W 3 123 (.slice A k c') k (hds (H.take k))) := fun W c' hW => Src.of_rd (rd_noR hrdT (by omega) hW) (hds_ones _) Tryz.underlying123
  have HSD : Hid (∀ W c', Fr No w W → Src Tryz.prog W 3 123 (.slice X (H.length - (k + 1)) c') (H.length - (k + 1)) (hds (H.drop (k + 1)))) := fun W c' hW => Src.of_rd (rd_noR hrdD (by omega) hW) (hds_ones _) Tryz.underlying123
  have HCELL : Hid (∀ W, Fr No w W → Fr No w W ∧ W.cell? ⟨r, 0, none⟩ = some (.slice A H.length c) ∧ W.frozen? ⟨r, 0, none⟩ = false) := fun W hW => ⟨hW, (hb.fr hW (fun h => h)).cell 0, (hb.fr hW (fun h => h)).frozen 0⟩
  have HM : Hid (0 + k ≤ maxLen ∧ (0 + k) * 32 ≤ 140737488355328 ∧ k + (H.length - (k + 1)) ≤ maxLen ∧ (k + (H.length - (k + 1))) * 32 ≤ 140737488355328) := by
    refine ⟨?_, ?_, ?_, ?_⟩ <;> (try simp only [maxLen]) <;> omega
  have HLN : Hid (k + (H.length - (k + 1)) = (H.take k ++ H.drop (k + 1)).length ∧ hds (H.take k) ++ hds (H.drop (k + 1)) = hds (H.take k ++ H.drop (k + 1))) := by
    rw [hds_append, List.length_append, List.length_take, List.length_drop]
    exact ⟨by omega, rfl⟩
  generalize H.take k ++ H.drop (k + 1) = G at *
  have i1 : IntKind.i64.wrap ((k : Int) + 1) = ((k + 1 : Nat) : Int) := by rw [IntWalk.i64_in _ (by omega)]; omega
  have i2 : ((k : Int) + 1).toNat = k + 1 := by omega
  have i3 : (0 : Int) ≤ (k : Int) + 1 := by omega
  have i4 : (k : Int) + 1 ≤ (H.length : Int) := by omega
  have i5 : (k : Int) ≤ (k : Int) + 1 := by omega
  have hk1 : k + 1 ≤ H.length := hk
  have hkc : k ≤ c := by omega
  have hkc1 : k + 1 ≤ c := by omega
  have hdd : Fr No w w.drew := (Fr.refl _ _).drew
  have q0 := HCELL.out w (Fr.refl _ _)
  unfold maxLen at h2
  clear hb ho hrd hrdT hrdD
  go_enter Tryz.func83, Tryz.ntmps83
  by_cases hck : c = k + 1
  all_goals
    first | rw [if_pos hck] at hX | rw [if_neg hck] at hX
    subst hX
    go_region_law (first
      | (refine step_app _ rfl (.const (.slice none 0 0)) (.tmp 10) 123 123 rfl elHR (Own.nil _ _ _) rfl (HST.out _ _ hdd) rfl HM.out.1 HM.out.2.1 ?_; intro v5 w5 ho5 hf5 hn5; rw [Nat.zero_add, List.nil_append] at ho5
         have hq5 : Fr No w w5 := Fr.trans hdd (fr_at_none hf5)
         have hc5 := (HCELL.out _ hq5).2.1
         have hw5 : Newer w.heap.size none v5.ownBlock := Newer.trans (.inl rfl) (Newer.of hn5) (Nat.le_refl _))
      | (refine step_app _ rfl (.tmp 11) (.tmp 18) 123 123 rfl elHR ho5 rfl (HSD.out _ _ hq5) rfl HM.out.2.2.1 HM.out.2.2.2 ?_; intro v6 w6 ho6 hf6 hn6
         have hq6 : Fr No w w6 := fr_no hq5 hw5 hf6
         have hb6 := HB.out.fr hq6 (fun h => h)
         have k6 := hb6.cell 0
         have z6 := hb6.frozen 0
         simp only [List.getElem?_toArray, List.getElem?_cons_zero] at k6
         obtain ⟨A6, c6, rfl, hc6, hm6⟩ := ho6.form))
    all_goals
      have HO6 := Lib.hid ho6
      have HB6 := Lib.hid hb6
      have HQ6 := Lib.hid hq6
      clear ho6 hb6 hq6 ho5 hf5 hn5 hq5 hc5 hw5 hf6 hn6
      go_wp2
      go_end0
      refine ⟨rfl, rfh_mk HLN.out.1 (HB6.out.set_ 0 _) hc6 hm6 ?_, Fr.setCell (S := At1 r) (p := ⟨r, 0, none⟩) (HQ6.out.mono fun _ _ h => False.elim h) (fun _ => rfl) _⟩
      rw [← HLN.out.2]
      exact HO6.out.setCell (p := ⟨r, 0, none⟩) (HO6.out.ne_ HB6.out (by decide)) _

/-- what the document's holds tell -/
def RRet (q r : Nat) (n : Int) (S : List Ac) (H : List Hd) (w : World) (e : Ending) (w' : World) : Prop := e = .returned (.int .i64 n) ∧ RfS w' q S ∧ RfH w' r H ∧ Fr (At2 q r) w w'
theorem in_neg {x : Int} (h : 0 < x ∧ x ≤ 9223372036854775807) : In64 (-x) := by unfold In64; omega
set_option maxRecDepth 100000 in
set_option maxHeartbeats 1000000 in
theorem rfree_any (q r : Nat) (S : List Ac) (H : List Hd) (s : ByteArray) (n : Int) (w : World) (hc : RfS w q S) (hI : Inv S) (hh : RfH w r H) (hr : RiseH H) (hP : PosH H) (hH : H.length < 1000) :
    Calls Tryz.prog 57 #[.pointer (some ⟨r, 0, none⟩), .pointer (some ⟨q, 0, none⟩), .string s, .int .i64 n] w (RRet q r (freeE S H s.data.toList n) (freeSS S H s.data.toList n) (freeHH S H s.data.toList n) w) := by
  have HC := Lib.hid hc
  have HH := Lib.hid hh
  have HAT := Lib.hid (rat_any r H s n w hh hH)
  obtain ⟨cq, hbq⟩ := hc.blk
  obtain ⟨A, c, hb, h1, h2, ho⟩ := hh
  have c0 := hb.cell 0
  simp only [List.getElem?_toArray, List.getElem?_cons_zero] at c0
  have HO := Lib.hid ho.rd
  have HBQ := Lib.hid hbq
  clear hb ho hbq hc
  have HE : Hid (∀ m, freeE S H s.data.toList n = m → ∀ T G W, freeSS S H s.data.toList n = T → freeHH S H s.data.toList n = G → RfS W q T → RfH W r G → Fr (At2 q r) w W → RRet q r (freeE S H s.data.toList n) (freeSS S H s.data.toList n) (freeHH S H s.data.toList n) w (.returned (.int .i64 m)) W) := fun m e1 T G W e2 e3 g1 g2 g3 => ⟨by rw [e1], by rw [e2]; exact g1, by rw [e3]; exact g2, g3⟩
  go_enter Tryz.func57, Tryz.ntmps57
  go_wp2_with fail
  refine HAT.out.mono ?_
  rintro e wA ⟨z, rfl, hz, rfl⟩
  rcases hz with ⟨hg, rfl⟩ | ⟨k, hk, rfl, e1, e2, hg⟩
  · have HF : Hid (freeE S H s.data.toList n = 6 ∧ freeSS S H s.data.toList n = S ∧ freeHH S H s.data.toList n = H) := by
      refine ⟨by unfold freeE; rw [hg], by unfold freeSS; rw [hg], ?_⟩
      unfold freeHH freeE
      rw [hg]
      rfl
    clear hg
    go_wp2
    go_ret
    exact HE.out 6 HF.out.1 S H _ HF.out.2.1 HF.out.2.2 HC.out HH.out (Fr.refl _ _)
  · have hpos := hP H[k] (List.getElem_mem hk)
    have HF : Hid (freeE S H s.data.toList n = asdE S s.data.toList (-H[k].sum) ∧ freeSS S H s.data.toList n = asdS S s.data.toList (-H[k].sum)) := ⟨by unfold freeE; rw [hg], by unfold freeSS; rw [hg]⟩
    have HD : Hid (delH H s.data.toList n = H.take k ++ H.drop (k + 1)) := del_atH hr hk e1 e2
    have HCUT := Lib.hid (fun W (hW : RfH W r H) => rcut_any r H k W hW hk hH)
    obtain ⟨ad, rfl, _, _, _, p2⟩ := hd_at HO.out k hk
    have hx : 0 < H[k].sum ∧ H[k].sum ≤ 9223372036854775807 := ⟨hpos.2.2.1, hpos.2.2.2.1⟩
    have hk0 : ¬ (k : Int) < 0 := by omega
    clear hg e1 e2 hpos
    generalize H[k].sum = x at *
    have HAS : Hid (Calls Tryz.prog 82 #[.pointer (some ⟨q, 0, none⟩), .string s, .int .i64 (-x)] w (DeedsR q (asdE S s.data.toList (-x)) (asdS S s.data.toList (-x)) w)) := refaside_any q S s (-x) w HC.out hI (in_neg hx)
    have hw : wrap64 (-x) = -x := IntWalk.wrap64_in _ ⟨by omega, by omega⟩
    go_wp2_with fail
    refine HAS.out.mono ?_
    rintro e w2 ⟨rfl, hc2, hf2⟩
    have HC2 := Lib.hid hc2
    have HH2 := Lib.hid (HH.out.chart HBQ.out hf2)
    have HF2 := Lib.hid hf2
    clear hc2 hf2 p2 c0
    by_cases h0 : asdE S s.data.toList (-x) = 0
    · have HZ := Lib.hid h0
      rw [h0]
      clear h0
      go_wp2_with fail
      refine (HCUT.out w2 HH2.out).mono ?_
      rintro e w3 ⟨rfl, hh3, hf3⟩
      have HH3 := Lib.hid hh3
      obtain ⟨cs, hbr⟩ := HH2.out.blk
      have HC3 := Lib.hid (HC2.out.holds hbr hf3)
      have HF3 := Lib.hid hf3
      clear hh3 hf3 hbr
      go_wp2
      go_ret
      exact HE.out 0 (by rw [HF.out.1, HZ.out]) _ _ _ HF.out.2 (by unfold freeHH; rw [HF.out.1, HZ.out, if_pos rfl, HD.out]) HC3.out HH3.out ((HF2.out.mono fun _ _ h => .inl h).trans (HF3.out.mono fun _ _ h => .inr h))
    · have HZ := Lib.hid h0
      have hz : (asdE S s.data.toList (-x) == 0) = false := beq_eq_false_iff_ne.2 h0
      have hz2 : (asdE S s.data.toList (-x) != 0) = true := bne_iff_ne.2 h0
      generalize asdE S s.data.toList (-x) = E at *
      clear h0
      go_wp2
      go_ret
      exact HE.out E HF.out.1 _ _ _ HF.out.2 (by unfold freeHH; rw [HF.out.1, if_neg HZ.out]) HC2.out HH2.out (HF2.out.mono fun _ _ h => .inl h)
end Go.Proofs.YtjbeaoabhhaiiaaGreat
