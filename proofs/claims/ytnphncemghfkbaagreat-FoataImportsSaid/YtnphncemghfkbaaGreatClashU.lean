/- The document's Right, and those of b that are not in a. -/
import Derived.Test.YtnphncemghfkbaaGreatClashU0
namespace Go.Proofs.YtnphncemghfkbaaGreat
open Go.RowKit Go.My Go.Maps Go.WideMaps
set_option linter.unusedSimpArgs false
set_option linter.unusedVariables false
attribute [local go_sem ↓] Go.wp_at_zero Go.wp_at_succ

def RgRel (w : World) (l : List Od) (iv : Value) (wr : World) : Prop := ∃ k : Nat, k ≤ l.length ∧ iv = .int .i64 k ∧ (∀ i (h : i < l.length), i < k → atL (idsO l) l[i].id = i) ∧ Fr No w wr
set_option maxRecDepth 100000 in
set_option maxHeartbeats 1000000 in
theorem refright10_any (w0 w : World) (F : Nat → Prop) (A : Option Addr) (c : Nat) (l : List Od) (hl : OdsS w0 w F A l) (hn : l.length ≤ 1000000) :
    Calls Tryz.prog 33 #[.slice A l.length c] w fun e w' => e = .returned (.bool (rightL l)) ∧ Fr No w w' := by
  have HL := Lib.hid hl
  have HAT : Hid (∀ W a b, Fr No w W → Calls Tryz.prog 27 #[.slice A l.length c, .agg #[.int .i64 a, .int .i64 b]] W fun e w' => e = .returned (.int .i64 (atL (idsO l) (a, b))) ∧ Fr No W w') := fun W a b hW => at10_any w0 W F A c l a b (hl.fr hW (fun _ _ _ h => h)) hn
  clear hl
  go_enter Tryz.func33, Tryz.ntmps33
  go_wp2
  go_loopw [3] (fun iv wr => RgRel w l iv wr) (fun iv _ => l.length - (intOf iv).toNat)
  case atStart => exact ⟨0, Nat.zero_le _, rfl, fun i _ h => absurd h (Nat.not_lt_zero _), Fr.refl _ _⟩
  case round =>
    obtain ⟨k, hk, rfl, hall, hfr⟩ := hrel
    have hk62 : (k : Int) ≤ 1000000 := by omega
    by_cases hlt : k < l.length
    · obtain ⟨ad, v, rfl, _, hok, hg, hL, q0, q1, q2, q3, q4, q5, q6, q7, q8, q9⟩ := (HL.out.fr hfr (fun _ _ _ h => h)).at_ k hlt
      have HFR := Lib.hid hfr
      have HLT : Hid (k + 1 ≤ l.length) := hlt
      have HY : Hid (atL (idsO l) (l[k].cl, l[k].sq) = (k : Int) → ∀ i (h : i < l.length), i < k + 1 → atL (idsO l) l[i].id = i) := fun e i h hi => by
        by_cases hik : i = k
        · subst hik; exact e
        · exact hall i h (by omega)
      have HN : Hid (atL (idsO l) (l[k].cl, l[k].sq) ≠ (k : Int) → rightL l = false) := fun e => by
        cases hr : rightL l with
        | false => rfl
        | true => exact absurd (right_at.1 hr k hlt) e
      have HAK := Lib.hid (HAT.out wr l[k].cl l[k].sq hfr)
      generalize l[k].cl = cl at *
      generalize l[k].sq = sq at *
      clear q2 q3 q4 q5 q6 q7 q8 q9 hok hg hL hall hfr
      by_cases he : atL (idsO l) (cl, sq) = (k : Int)
      · have HY2 := Lib.hid (HY.out he)
        rw [he] at HAK
        clear HY HN he
        go_wp2_with fail
        (with_reducible refine HAK.out.mono ?_)
        rintro e w1 ⟨rfl, hf1⟩
        have HF1 := Lib.hid hf1
        clear q0 q1 hf1
        go_wp2
        go_roundw
        case rel => exact ⟨k + 1, HLT.out, by go_num, HY2.out, HFR.out.trans HF1.out⟩
        case measure => have := HLT.out; simp [intOf]; omega
      · have HN2 := Lib.hid (HN.out he)
        have hbe : (atL (idsO l) (cl, sq) == (k : Int)) = false := beq_eq_false_iff_ne.2 he
        have hbn : (atL (idsO l) (cl, sq) != (k : Int)) = true := by simp [he]
        generalize atL (idsO l) (cl, sq) = at_ at *
        clear HY HN
        go_wp2_with fail
        (with_reducible refine HAK.out.mono ?_)
        rintro e w1 ⟨rfl, hf1⟩
        have HF1 := Lib.hid hf1
        clear q0 q1 hf1
        go_wp2
        go_ret
        exact ⟨by rw [HN2.out]; rfl, HFR.out.trans HF1.out⟩
    · obtain rfl : k = l.length := by omega
      have HE : Hid (rightL l = true) := right_at.2 fun i h => hall i h h
      clear hall
      go_wp2
      go_ret
      exact ⟨by rw [HE.out]; rfl, hfr⟩

theorem others_snoc {a b : List Od} {k : Nat} (h : k < b.length) : others Od.id a (b.take (k + 1)) = others Od.id a (b.take k) ++ if atL (idsO a) b[k].id < 0 then [b[k]] else [] := by
  unfold others
  rw [List.take_succ_eq_append_getElem h, List.filter_append]
  congr 1
  by_cases hn : atL (idsO a) b[k].id < 0
  · have h1 : b[k].id ∉ a.map Od.id := atL_neg.1 hn
    rw [if_pos hn, List.filter_cons]
    split
    · rfl
    · rename_i h2
      exact absurd (by simp only [decide_eq_true_eq]; exact h1) h2
  · rw [if_neg hn, List.filter_cons]
    split
    · rename_i h2
      simp only [decide_eq_true_eq] at h2
      exact absurd (atL_neg.2 h2) hn
    · rfl
theorem others_len (a b : List Od) (k : Nat) : (others Od.id a (b.take k)).length ≤ k := by
  unfold others
  refine Nat.le_trans (List.length_filter_le _ _) ?_
  rw [List.length_take]
  omega
def OtRel (w0 w : World) (a b : List Od) (lv iv : Value) (wr : World) : Prop := ∃ k : Nat, k ≤ b.length ∧ iv = .int .i64 k ∧ OwnO w0 wr lv (others Od.id a (b.take k)) ∧ Fr No w wr ∧ Newer w.heap.size none lv.ownBlock
end Go.Proofs.YtnphncemghfkbaaGreat
