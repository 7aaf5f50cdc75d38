/- Contracts of package coins: parts, the same lists, what the laws call first. -/
import Derived.Test.YtdmjnheohjegdaaDoorCoins2
namespace Go.Proofs.YtdmjnheohjegdaaDoor
open Go.RowKit Go.My
set_option linter.unusedSimpArgs false
set_option linter.unusedVariables false

def SameRel (l r : List Int) (w : World) (i : Value) (wr : World) : Prop :=
  ∃ k j : Nat, k ≤ l.length ∧ i = .int .i64 k ∧ l.take k = r.take k ∧ wr = w.drewN j

theorem fl_pos (a p : Int) (hp : 0 < p) (hr : 0 ≤ a.tmod p) : a / p = a.tdiv p ∧ a % p = a.tmod p := by
  have h1 := Int.mul_tdiv_add_tmod a p
  have h2 := Int.tmod_lt_of_pos a hp
  exact (Int.ediv_emod_unique hp).2 ⟨by omega, hr, h2⟩
theorem fl_neg (a p : Int) (hp : 0 < p) (hr : a.tmod p < 0) : a / p = a.tdiv p - 1 ∧ a % p = a.tmod p + p := by
  have h1 := Int.mul_tdiv_add_tmod a p
  have h2 : -p < a.tmod p := Int.lt_tmod_of_pos a hp
  refine (Int.ediv_emod_unique hp).2 ⟨?_, by omega, by omega⟩
  rw [Int.mul_sub, Int.mul_one]
  omega
theorem div_bd (a p : Int) (hp : 1 ≤ p) : (0 ≤ a → 0 ≤ a / p ∧ a / p ≤ a) ∧ (a < 0 → a ≤ a / p ∧ a / p < 0) := by
  refine ⟨fun h => ⟨Int.ediv_nonneg h (by omega), Int.ediv_le_self p h⟩, fun h => ⟨?_, Int.ediv_neg_of_neg_of_pos h (by omega)⟩⟩
  refine Int.le_ediv_of_mul_le (by omega) ?_
  have h1 := Int.mul_le_mul_of_nonneg_left hp (show 0 ≤ -a by omega)
  have h2 : -a * p = -(a * p) := Int.neg_mul a p
  omega
theorem div_lt (a p : Int) (hp : 1 ≤ p) (h0 : 0 ≤ a) (hx : 0 < a % p) : a / p + 1 ≤ a := by
  have h1 := Int.mul_ediv_add_emod a p
  have h2 := (div_bd a p hp).1 h0
  have := Int.mul_le_mul_of_nonneg_right hp h2.1
  omega
theorem tdiv_neg (a p : Int) (hp : 0 < p) (hr : a.tmod p < 0) : a < 0 := by
  rcases Int.lt_or_le a 0 with h | h
  · exact h
  · have := Int.tmod_nonneg p h
    omega
theorem elI : El Tryd.prog 33 2 1 8 := ⟨Tryd.underlying33, by
  have h : (Tryd.prog.info? 2).map (fun i => (i.zero, i.size, i.bytes)) = some (some (.int .i64 0), 1, 8) := by kernel_rfl
  obtain ⟨i, hi, hz, hs, hb⟩ := info_parts h
  exact ⟨i, _, hi, hz, hs, hb, rfl⟩, by omega⟩
theorem zeroI : ∀ i, Tryd.prog.info? 2 = some i → i.zero = some (.int .i64 0) := by
  have h : (Tryd.prog.info? 2).map (fun i => (i.zero, i.size, i.bytes)) = some (some (.int .i64 0), 1, 8) := by kernel_rfl
  intro i hi
  rw [hi] at h
  simp at h
  exact h.1
theorem shareF_get (a : Int) (p i : Nat) (h : i < p) : (shareF a p)[i]? = some (a / (p : Int) + if (i : Int) < a % (p : Int) then 1 else 0) := by
  simp [shareF, h]
/-- the first k parts, noughts behind -/
def shareK (a : Int) (p k : Nat) : List Int := (shareF a p).take k ++ List.replicate (p - k) 0
theorem shareK_length (a : Int) (p k : Nat) (h : k ≤ p) : (shareK a p k).length = p := by simp [shareK, shareF_length]; omega
theorem shareK_set (a : Int) (p k : Nat) (h : k < p) (x : Int) (hx : x = a / (p : Int) + if (k : Int) < a % (p : Int) then 1 else 0) : (shareK a p k).set k x = shareK a p (k + 1) := by
  apply List.ext_getElem?
  intro i
  have hl := shareF_length a p
  unfold shareK
  rw [List.getElem?_set]
  by_cases hik : k = i
  · subst hik
    rw [if_pos rfl, if_pos (by simp [hl]; omega), List.getElem?_append_left (by simp [hl]; omega), List.getElem?_take, if_pos (by omega), shareF_get a p k h, hx]
  · rw [if_neg hik]
    by_cases hlt : i < k
    · rw [List.getElem?_append_left (by simp [hl]; omega), List.getElem?_append_left (by simp [hl]; omega), List.getElem?_take, List.getElem?_take, if_pos hlt, if_pos (by omega)]
    · rw [List.getElem?_append_right (by simp [hl]; omega), List.getElem?_append_right (by simp [hl]; omega)]
      simp only [List.length_take, hl, List.getElem?_replicate]
      by_cases hip : i < p
      · rw [if_pos (by omega), if_pos (by omega)]
      · rw [if_neg (by omega), if_neg (by omega)]

def ShareRel (w : World) (a : Int) (p B : Nat) (iv : Value) (wr : World) : Prop :=
  ∃ k : Nat, k ≤ p ∧ iv = .int .i64 k ∧ Blk wr B 2 (is_ (shareK a p k)).toArray ∧ Below w.heap.size w wr

end Go.Proofs.YtdmjnheohjegdaaDoor
