/- ClashSwaps: the walk. -/
import Derived.Test.YtkkhdjchfhmliaaGreatMF
import Derived.Test.YtkkhdjchfhmliaaGreatMB
import Derived.Test.YtkkhdjchfhmliaaGreatMS
namespace Go.Proofs.YtkkhdjchfhmliaaGreat
open Go.RowKit Go.My Go.Maps Go.WideMaps
set_option linter.unusedSimpArgs false
set_option linter.unusedVariables false
attribute [local go_sem ↓] Go.wp_at_zero Go.wp_at_succ

theorem sameBk_self (a : Bk) : sameBk a a = true := by unfold sameBk; simp
/-- replies that stand in a row -/
def RpS (w : World) (A : Option Addr) (n : Nat) (S : List Rp) : Prop := ∃ F, Rd w F 4 A n (rps S) ∧ S.length = n
theorem RpS.no {w w' : World} {A : Option Addr} {n : Nat} {S : List Rp} (h : RpS w A n S) (hf : Fr No w w') : RpS w' A n S := by
  obtain ⟨F, h1, h2⟩ := h
  exact ⟨F, h1.fr (by omega) hf (fun _ _ _ h => h), h2⟩
theorem RpS.at_ {w : World} {A : Option Addr} {n : Nat} {S : List Rp} (h : RpS w A n S) (k : Nat) (hk : k < n) {r : Rp} (hr : S[k]? = some r) :
    ∃ ad, A = some ad ∧ w.cell? (ad.add (k * 4)) = some (.int .i64 r.err) ∧ w.cell? ⟨(ad.add (k * 4)).block, (ad.add (k * 4)).off + 1, none⟩ = some (.int .i64 r.hv) ∧
      w.cell? ⟨(ad.add (k * 4)).block, (ad.add (k * 4)).off + 2, none⟩ = some (.int .i64 r.st) ∧ w.cell? ⟨(ad.add (k * 4)).block, (ad.add (k * 4)).off + 3, none⟩ = some (.int .i64 r.num) := by
  obtain ⟨F, h1, h2⟩ := h
  subst h2
  obtain ⟨hk', rfl⟩ := List.getElem?_eq_some_iff.1 hr
  obtain ⟨ad, e, _, q0, q1, q2, q3⟩ := rp_at h1 k hk
  exact ⟨ad, e, q0, q1, q2, q3⟩
/-- book.Fold, of a list that may be handed in -/
theorem foldL_any (W : World) (A : Option Addr) (c : Nat) (l : List Od) (h : Ls W Tr A c l) (hn : l.length ≤ 1000) :
    Calls Tryz.prog 9 #[.slice A l.length c] W fun e w' => ∃ A' c' q, e = .returned (.tuple #[.slice A' l.length c', .pointer (some ⟨q.p, 0, none⟩)]) ∧ RpS w' A' l.length (foldR bk0 l) ∧ BkS w' q (foldB bk0 l) ∧ Fr No W w' ∧ l.length ≤ c' := by
  refine (fold_any W W Tr A c l h.ods (Below.refl _ _) hn).mono ?_
  rintro e w' ⟨A', c', q, h1, h2, h3, h4, _, h6, _⟩
  exact ⟨A', c', q, h1, ⟨_, h2, foldR_length _ _⟩, h3, h4, h6⟩
def WkRel (w : World) (n : Nat) (iv : Value) (wr : World) : Prop := ∃ k : Nat, k ≤ n ∧ iv = .int .i64 k ∧ Fr No w wr
set_option maxRecDepth 100000 in
set_option maxHeartbeats 2000000 in
theorem clashSwaps_walk (A : Option Addr) (c : Nat) (la : List Od) (B : Option Addr) (d : Nat) (S : List Int) (w : World) (ra : OdsS w w (Lt w.heap.size) A la) (ca : la.length ≤ c) (ma : c ≤ maxLen) (rb : Rd w (Lt w.heap.size) 1 B S.length (is_ S)) (cb : S.length ≤ d) (mb : d ≤ maxLen) (hI : I64s S) :
    Calls Tryz.prog 3 #[.slice A la.length c, .slice B S.length d] w fun e w' => e = .returned (.bool true) ∧ Below w.heap.size w w' := by
  have HLV : Hid (∀ W, _) := fun W => lives10 W
  have HA : Hid (∀ W, Fr No w W → _) := fun W hW => few_own w W A c 40 la ra ca ma (by omega) hW
  have HMX : Hid (∀ W A c, Fr No w W → Ls W Tr A c (lawL la 40) → c ≤ maxLen → Calls Tryz.prog 8 #[.slice A (lawL la 40).length c, .slice B S.length d] W fun e w' => ∃ A' c' m, e = .returned (.slice A' (lawL la 40).length c') ∧ Ls w' Tr A' c' m ∧ m.length = (lawL la 40).length ∧ Ak Od.id clashB (lawL la 40) m ∧ Fr No W w') := fun W A c hW h hc => by
    refine (mixed_any W Tr _ A B c d (lawL la 40) S h hc (lawL_rt la 40) (rb.fr (by omega) hW (fun _ _ _ h => h)) (by unfold maxLen at mb; omega) hI).mono ?_
    rintro e w' ⟨A', c', m, h1, h2, h3, h4, h5, _⟩
    exact ⟨A', c', m, by rw [h1, h3], h2, h3, h4, h5⟩
  have HRA := Lib.hid (lawL_rt la 40)
  have hal := lawL_len la 40
  clear ra rb ca cb ma mb hI
  generalize hga : lawL la 40 = l at *
  clear hga
  generalize la.length = na at *
  generalize S.length = ns at *
  go_enter Tryz.func3, Tryz.ntmps3
  go_wp2_with fail
  (with_reducible refine (HLV.out _).mono ?_)
  rintro e w1 ⟨rfl, hf1⟩
  go_wp2_with fail
  refine (HA.out _ hf1).mono ?_
  rintro e w2 ⟨A2, c2, m2, rfl, hf2, HA2⟩
  go_wp2_with fail
  (with_reducible refine (HA2 _ (Fr.refl _ _)).mono ?_)
  rintro e w3 ⟨A3, c3, rfl, hl3, hf3, hc3⟩
  clear HA2
  have HF3 := Lib.hid ((hf1.trans hf2).trans hf3)
  have HL3 := Lib.hid hl3
  have HC3 := Lib.hid hc3
  clear hf1 hf2 hf3 hl3 hc3 HA HLV
  go_wp2_with fail
  (with_reducible refine (HMX.out _ _ _ HF3.out HL3.out HC3.out).mono ?_)
  rintro e w4 ⟨A4, c4, m, rfl, hl4, hml, hak, hf4⟩
  have HF4 := Lib.hid (HF3.out.trans hf4)
  have HLl := Lib.hid (HL3.out.no hf4)
  have HLm := Lib.hid hl4
  have HML := Lib.hid hml
  have HAK := Lib.hid hak
  have HOK : Hid (∀ o ∈ l, o.ok) := HLl.out.ods.ok
  clear hf4 hl4 hml hak HMX HF3 HL3 HC3
  have HFL : Hid (∀ W, Ls W Tr A3 c3 l → Calls Tryz.prog 9 #[.slice A3 l.length c3] W fun e w' => ∃ A' c' q, e = .returned (.tuple #[.slice A' l.length c', .pointer (some ⟨q.p, 0, none⟩)]) ∧ RpS w' A' l.length (foldR bk0 l) ∧ BkS w' q (foldB bk0 l) ∧ Fr No W w' ∧ l.length ≤ c') := fun W h => foldL_any W A3 c3 l h (Nat.le_trans hal (by decide))
  have HFM : Hid (∀ W, Ls W Tr A4 c4 m → Calls Tryz.prog 9 #[.slice A4 l.length c4] W fun e w' => ∃ A' c' q, e = .returned (.tuple #[.slice A' l.length c', .pointer (some ⟨q.p, 0, none⟩)]) ∧ RpS w' A' l.length (foldR bk0 m) ∧ BkS w' q (foldB bk0 l) ∧ Fr No W w' ∧ l.length ≤ c') := fun W h => by
    have h1 := foldL_any W A4 c4 m h (by rw [HML.out]; exact Nat.le_trans hal (by decide))
    rw [HML.out, ← (fold_ak l m bki0 HOK.out HAK.out).1] at h1
    exact h1
  have HA1 : Hid (∀ W, Ls W Tr A3 c3 l → Ls W Tr A4 c4 m → Calls Tryz.prog 10 #[.slice A3 l.length c3, .slice A4 l.length c4] W fun e w' => e = .returned (.bool true) ∧ Fr No W w') := fun W h1 h2 => by
    have h := alikeC_any W Tr Tr A3 A4 c3 c4 l m h1 h2
    rw [(alikeB_iff _ _).2 HAK.out, HML.out] at h
    exact h
  have HA2 : Hid (∀ W, Ls W Tr A3 c3 l → Ls W Tr A4 c4 m → Calls Tryz.prog 10 #[.slice A4 l.length c4, .slice A3 l.length c3] W fun e w' => e = .returned (.bool true) ∧ Fr No W w') := fun W h1 h2 => by
    have h := alikeC_any W Tr Tr A4 A3 c4 c3 m l h2 h1
    rw [(alikeB_iff _ _).2 (Ak.symm clashB_comm HAK.out), HML.out] at h
    exact h
  have HBS : Hid (∀ W p q, BkS W p (foldB bk0 l) → BkS W q (foldB bk0 l) → Calls Tryz.prog 11 #[.pointer (some ⟨p.p, 0, none⟩), .pointer (some ⟨q.p, 0, none⟩)] W fun e w' => e = .returned (.bool true) ∧ Fr No W w') := fun W p q h1 h2 => by
    have h := bsame_any p q _ _ W h1 h2
    rw [sameBk_self] at h
    exact h
  have HAT : Hid (∀ W x y, Ls W Tr A4 c4 m → Calls Tryz.prog 12 #[.slice A4 l.length c4, .agg #[.int .i64 x, .int .i64 y]] W fun e w' => e = .returned (.int .i64 (atL (idsO m) (x, y))) ∧ Fr No W w') := fun W x y h => by
    have h1 := at10_any W W Tr A4 c4 m x y h.ods h.n
    rw [HML.out] at h1
    exact h1
  have HKX : Hid (∀ i, (hi : i < l.length) → ∃ k r, k < l.length ∧ atL (idsO m) (l[i].cl, l[i].sq) = (k : Int) ∧ (foldR bk0 l)[i]? = some r ∧ (foldR bk0 m)[k]? = some r) := fun i hi => by
    obtain ⟨k, hk, he⟩ := List.mem_iff_getElem.1 (HAK.out.2.2.2.1 l[i] (List.getElem_mem hi))
    have h1 := atL_rt HAK.out.2.2.1 hk
    rw [he] at h1
    have h2 := reply_ak bki0 HOK.out HAK.out (List.getElem?_eq_getElem hi) (by rw [List.getElem?_eq_getElem hk, he] : m[k]? = some l[i])
    have hil : i < (foldR bk0 l).length := by rw [foldR_length]; exact hi
    refine ⟨k, (foldR bk0 l)[i], by rw [HML.out] at hk; exact hk, h1, List.getElem?_eq_getElem hil, ?_⟩
    rw [← h2]
    exact List.getElem?_eq_getElem hil
  clear hal HRA HML HAK HOK
  generalize foldB bk0 l = bk at *
  generalize foldR bk0 l = Rl at *
  generalize foldR bk0 m = Rm at *
  go_wp2_with fail
  (with_reducible refine (HFL.out _ HLl.out).mono ?_)
  rintro e w5 ⟨A5, c5, q5, rfl, hr5, hb5, hf5, hc5⟩
  have HLl5 := Lib.hid (HLl.out.no hf5)
  have HLm5 := Lib.hid (HLm.out.no hf5)
  have HF5 := Lib.hid (HF4.out.trans hf5)
  have HR5 := Lib.hid hr5
  have HB5 := Lib.hid hb5
  clear hf5 hr5 hb5 HLl HLm HF4 HFL
  go_wp2_with fail
  (with_reducible refine (HFM.out _ HLm5.out).mono ?_)
  rintro e w6 ⟨A6, c6, q6, rfl, hr6, hb6, hf6, hc6⟩
  have HLl6 := Lib.hid (HLl5.out.no hf6)
  have HLm6 := Lib.hid (HLm5.out.no hf6)
  have HF6 := Lib.hid (HF5.out.trans hf6)
  have HRl6 := Lib.hid (HR5.out.no hf6)
  have HRm6 := Lib.hid hr6
  have HBl6 := Lib.hid (HB5.out.no hf6)
  have HBm6 := Lib.hid hb6
  clear hf6 hr6 hb6 HLl5 HLm5 HF5 HR5 HB5 HFM
  go_wp2_with fail
  (with_reducible refine (HA1.out _ HLl6.out HLm6.out).mono ?_)
  rintro e w7 ⟨rfl, hf7⟩
  go_wp2_with fail
  (with_reducible refine (HA2.out _ (HLl6.out.no hf7) (HLm6.out.no hf7)).mono ?_)
  rintro e w8 ⟨rfl, hf8⟩
  have HX8 := Lib.hid (hf7.trans hf8)
  clear hf7 hf8
  go_wp2_with fail
  (with_reducible refine (HBS.out _ _ _ (HBl6.out.no HX8.out) (HBm6.out.no HX8.out)).mono ?_)
  rintro e w9 ⟨rfl, hf9⟩
  have HX9 := Lib.hid (HX8.out.trans hf9)
  have HLl9 := Lib.hid (HLl6.out.no HX9.out)
  have HLm9 := Lib.hid (HLm6.out.no HX9.out)
  have HRl9 := Lib.hid (HRl6.out.no HX9.out)
  have HRm9 := Lib.hid (HRm6.out.no HX9.out)
  have HF9 := Lib.hid (HF6.out.trans HX9.out)
  have hln := HLl9.out.n
  clear hf9 HX8 HX9 HLl6 HLm6 HRl6 HRm6 HBl6 HBm6 HF6 HA1 HA2 HBS
  go_wp2
  go_loopw [10] (fun iv wr => WkRel w9 l.length iv wr) (fun iv _ => l.length - (intOf iv).toNat)
  case atStart => exact ⟨0, Nat.zero_le _, rfl, Fr.refl _ _⟩
  case round =>
    obtain ⟨i, hi, rfl, hfr⟩ := hrel
    have hi62 : (i : Int) ≤ 1000000 := by omega
    by_cases hlt : i < l.length
    · obtain ⟨ad, v, rfl, _, hok, hg, hL, q0, q1, q2, q3, q4, q5', q6', q7, q8, q9⟩ := (HLl9.out.no hfr).ods.at_ i hlt
      obtain ⟨k, r, hk, hat, hrl, hrm⟩ := HKX.out i hlt
      obtain ⟨bd, rfl, x0, x1, x2, x3⟩ := (HRl9.out.no hfr).at_ i hlt hrl
      obtain ⟨cd, rfl, y0, y1, y2, y3⟩ := (HRm9.out.no hfr).at_ k hk hrm
      have HAK2 := Lib.hid (HAT.out wr l[i].cl l[i].sq (HLm9.out.no hfr))
      rw [hat] at HAK2
      have HFR := Lib.hid hfr
      have HLT : Hid (i + 1 ≤ l.length) := hlt
      have hki : (k : Int) < l.length := by omega
      have hk0 : (0 : Int) ≤ (k : Int) := by omega
      have hknn : ¬ (k : Int) < 0 := by omega
      generalize r.err = re at *
      generalize r.hv = rh at *
      generalize r.st = rs at *
      generalize r.num = rn at *
      generalize l[i].cl = cl at *
      generalize l[i].sq = sq at *
      clear hok hg hL hat hrl hrm hfr q2 q3 q4 q5' q6' q7 q8 q9
      go_wp2_with fail
      (with_reducible refine HAK2.out.mono ?_)
      rintro e w10 ⟨rfl, hf10⟩
      have HR : Hid (∀ p v, wr.cell? p = some v → w10.cell? p = some v) := fun p v h => hf10.cell_some h (fun h => h)
      have u0 := HR.out _ _ x0
      have u1 := HR.out _ _ x1
      have u2 := HR.out _ _ x2
      have u3 := HR.out _ _ x3
      have t0 := HR.out _ _ y0
      have t1 := HR.out _ _ y1
      have t2 := HR.out _ _ y2
      have t3 := HR.out _ _ y3
      have HF10 := Lib.hid (HFR.out.trans hf10)
      clear q0 q1 x0 x1 x2 x3 y0 y1 y2 y3 hf10 HR
      go_upto_region 13 with (fail)
      go_quiet (fail)
      clear u0 u1 u2 u3 t0 t1 t2 t3
      go_wp2
      go_roundw
      case rel => exact ⟨i + 1, HLT.out, by go_num, HF10.out.drewN _⟩
      case measure => have := HLT.out; simp [intOf]; omega
    · obtain rfl : i = l.length := by omega
      go_wp2
      go_ret
      exact ⟨rfl, (HF9.out.trans hfr).belowNo⟩
end Go.Proofs.YtkkhdjchfhmliaaGreat
