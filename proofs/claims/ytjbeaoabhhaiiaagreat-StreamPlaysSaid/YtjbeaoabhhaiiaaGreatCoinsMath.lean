/- What package coins answers, as functions: of no program. -/
import Derived.IntWalk
import Derived.RowKit
namespace Go.My
open Go Go.RowKit
set_option linter.unusedSimpArgs false
set_option linter.unusedVariables false

/-- it is a sum -/
def In64 (x : Int) : Prop := -9223372036854775808 ≤ x ∧ x ≤ 9223372036854775807
instance (x : Int) : Decidable (In64 x) := by unfold In64; infer_instance
def sumV (x : Int) : Int := if In64 x then x else 0
def sumN (x : Int) : Nat := if In64 x then 0 else 2
theorem sumV_in {x : Int} (h : In64 x) : sumV x = x := if_pos h
theorem sumN_in {x : Int} (h : In64 x) : sumN x = 0 := if_pos h
theorem sumV_out {x : Int} (h : ¬ In64 x) : sumV x = 0 := if_neg h
theorem sumN_out {x : Int} (h : ¬ In64 x) : sumN x = 2 := if_neg h
theorem wrap64_eq (x : Int) : wrap64 x = (x + 9223372036854775808) % 18446744073709551616 - 9223372036854775808 := by unfold wrap64; rfl

/-- all together -/
def total (l : List Int) : Int := l.foldr (· + ·) 0
theorem total_nil : total [] = 0 := rfl
theorem total_cons (x : Int) (l : List Int) : total (x :: l) = x + total l := rfl
theorem total_append (l r : List Int) : total (l ++ r) = total l + total r := by
  induction l with
  | nil => simp [total_nil]
  | cons x l ih => rw [List.cons_append, total_cons, total_cons, ih]; omega
theorem total_bound (l : List Int) (h : ∀ x ∈ l, In64 x) : -9223372036854775808 * l.length ≤ total l ∧ total l ≤ 9223372036854775808 * l.length := by
  induction l with
  | nil => simp [total_nil]
  | cons x l ih =>
    have h1 := h x List.mem_cons_self
    have h2 := ih fun y hy => h y (List.mem_cons_of_mem _ hy)
    rw [total_cons]
    unfold In64 at h1
    simp only [List.length_cons, Int.natCast_add]
    omega
theorem total_replicate (n : Nat) (a : Int) : total (List.replicate n a) = a * n := by
  induction n with
  | zero => simp [total_nil]
  | succ n ih =>
    rw [List.replicate_succ, total_cons, ih, Int.natCast_add, Int.mul_add]
    omega

/-- in parts -/
def shareF (a : Int) (parts : Nat) : List Int := (List.range parts).map fun i : Nat => a / (parts : Int) + if (i : Int) < a % (parts : Int) then 1 else 0
theorem shareF_length (a : Int) (parts : Nat) : (shareF a parts).length = parts := by simp [shareF]
/-- the nearest -/
def betweenF (a lo hi : Int) : Int := max lo (min a hi)
end Go.My
