/- Contracts of package order: rightLegs. -/
import Derived.Test.YtnphncemghfkbaaOrd2
namespace Go.Proofs.Ytnphncemghfkbaa
open Go.RowKit Go.My Go.Maps
set_option linter.unusedSimpArgs false
set_option linter.unusedVariables false
attribute [local go_sem ↓] Go.wp_at_zero Go.wp_at_succ

def RlRel (w : World) (L : List Lg) (iv : Value) (wr : World) : Prop := ∃ k : Nat, k ≤ L.length ∧ iv = .int .i64 k ∧ (L.take k).all okLg = true ∧ ((L.take k).map Lg.nm).Nodup ∧ Fr No w wr
theorem rightB_dup {L : List Lg} (h : ¬ (L.map Lg.nm).Nodup) : rightB L = false := by
  unfold rightB
  rw [decide_eq_false h]
  simp
theorem rightB_all {L : List Lg} (h : 2 ≤ L.length ∧ L.length ≤ 6) (ha : L.all okLg = true) (hd : (L.map Lg.nm).Nodup) : rightB L = true := by
  unfold rightB
  have e : L.all (fun g => nameB g.nm && decide (g.sum ≠ 0)) = true := ha
  rw [e, decide_eq_true h.1, decide_eq_true h.2, decide_eq_true hd]
  rfl
theorem any_nm (L : List Lg) (k : Nat) (hk : k < L.length) : ((L.take k).any fun g => g.acct.data.toList == L[k].acct.data.toList) = decide (L[k].nm ∈ (L.take k).map Lg.nm) := by
  rw [Bool.eq_iff_iff, List.any_eq_true, decide_eq_true_eq, List.mem_map]
  constructor
  · rintro ⟨g, hg, he⟩
    exact ⟨g, hg, by simpa [Lg.nm] using he⟩
  · rintro ⟨g, hg, he⟩
    exact ⟨g, hg, by simpa [Lg.nm] using he⟩
theorem each_take {X : Type} {R : List Value → X → Prop} {size : Nat} {cells : List Value} {T : List X} (hE : Each R size cells T) (k : Nat) (hk : k ≤ T.length) : Each R size (cells.take (k * size)) (T.take k) := by
  refine ⟨?_, fun i x hx => ?_⟩
  · have := hE.1
    rw [List.length_take, List.length_take, this]
    rw [Nat.min_eq_left (Nat.mul_le_mul_right _ hk), Nat.min_eq_left hk]
  · have hlt : i < k := by
      have := (List.getElem?_eq_some_iff.1 hx).1
      rw [List.length_take] at this
      omega
    rw [List.getElem?_take, if_pos hlt] at hx
    have h := hE.2 i x hx
    rw [List.drop_take, List.take_take, Nat.min_eq_left]
    · exact h
    · rw [← Nat.sub_mul]
      have : 1 ≤ k - i := by omega
      calc size = 1 * size := by omega
        _ ≤ (k - i) * size := Nat.mul_le_mul_right _ this

end Go.Proofs.Ytnphncemghfkbaa
