/- The document's own Name. -/
import Derived.Test.YtkkhdjchfhmliaaGreatChart
import Derived.Sort.Walk0
import Derived.Deep.DeepCutAuto
import Derived.Deep.QuietTactic
import Derived.BigQuiet
import Derived.Deep.DrawnRows
namespace Go.Proofs.YtkkhdjchfhmliaaGreat
open Go.RowKit Go.My Go.Maps
set_option linter.unusedSimpArgs false
set_option linter.unusedVariables false
attribute [local go_sem ↓] Go.wp_at_zero Go.wp_at_succ

def RNmRel (s : ByteArray) (iv : Value) : Prop := ∃ k : Nat, k ≤ s.size ∧ iv = .int .i64 k ∧ (s.data.toList.take k).all okc = true
theorem before_take : ∀ (a b : List UInt8) (k : Nat), a.take k = b.take k → k ≤ a.length → k ≤ b.length → bytesBefore a b = bytesBefore (a.drop k) (b.drop k)
  | a, b, 0, _, _, _ => rfl
  | [], _, k + 1, _, h, _ => by simp at h
  | _, [], k + 1, _, _, h => by simp at h
  | x :: a, y :: b, k + 1, h, ha, hb => by
    simp only [List.take_succ_cons, List.cons.injEq] at h
    obtain ⟨rfl, h⟩ := h
    rw [List.drop_succ_cons, List.drop_succ_cons, ← before_take a b k h (by simpa using ha) (by simpa using hb)]
    simp [bytesBefore]
theorem before_cons (x y : UInt8) (a b : List UInt8) (h : x ≠ y) : bytesBefore (x :: a) (y :: b) = decide ((x.toNat : Int) < (y.toNat : Int)) := by
  simp only [bytesBefore]
  rw [beq_eq_false_iff_ne.2 h]
  simp [UInt8.lt_iff_toNat_lt]
theorem before_end (a b : List UInt8) (h : a = [] ∨ b = []) : bytesBefore a b = decide ((a.length : Int) < (b.length : Int)) := by
  rcases h with rfl | rfl
  · cases b <;> simp [bytesBefore] <;> omega
  · cases a <;> simp [bytesBefore] <;> omega

def AhRel (s t : ByteArray) (w : World) (iv : Value) (wr : World) : Prop := ∃ k j : Nat, k ≤ s.size ∧ k ≤ t.size ∧ iv = .int .i64 k ∧ s.data.toList.take k = t.data.toList.take k ∧ wr = w.drewN j
end Go.Proofs.YtkkhdjchfhmliaaGreat
