/- Contracts of the document's own answers for coins: numbers of two halves. Contracts of the document's own answers for coins: Total, Times, Share. -/
import Derived.Test.YtkkhdjchfhmliaaGreatCoinsT
import Derived.Handy
import Derived.Deep.DeepCutAuto
namespace Go.Proofs.YtkkhdjchfhmliaaGreat
open Go.RowKit Go.My
set_option linter.unusedSimpArgs false
set_option linter.unusedVariables false

/-- a number of two halves -/
def wideV (x : Int) : Value := .agg #[.int .i64 (wrap64 (x / 18446744073709551616)), .int .u64 (x % 18446744073709551616)]

theorem plus_math (x y : Int) : ∃ hx hy lx ly, wideV x = .agg #[.int .i64 hx, .int .u64 lx] ∧ wideV y = .agg #[.int .i64 hy, .int .u64 ly] ∧ 0 ≤ lx ∧ lx < 18446744073709551616 ∧ 0 ≤ ly ∧ ly < 18446744073709551616 ∧
    wideV (x + y) = .agg #[.int .i64 (if IntKind.u64.wrap (lx + ly) < lx then wrap64 (wrap64 (hx + hy) + 1) else wrap64 (hx + hy)), .int .u64 (IntKind.u64.wrap (lx + ly))] := by
  refine ⟨_, _, _, _, rfl, rfl, by omega, by omega, by omega, by omega, ?_⟩
  unfold wideV
  rw [IntKind.wrap_u64]
  have h1 := wrap64_eq (x / 18446744073709551616)
  have h2 := wrap64_eq (y / 18446744073709551616)
  have h3 := wrap64_eq ((x + y) / 18446744073709551616)
  have h4 := wrap64_eq (wrap64 (x / 18446744073709551616) + wrap64 (y / 18446744073709551616))
  have h5 := wrap64_eq (wrap64 (wrap64 (x / 18446744073709551616) + wrap64 (y / 18446744073709551616)) + 1)
  have e1 : (x % 18446744073709551616 + y % 18446744073709551616) % 18446744073709551616 = (x + y) % 18446744073709551616 := by omega
  rw [e1]
  congr 3
  congr 1
  split <;> omega

theorem minus_math (x : Int) : ∃ hx lx, wideV x = .agg #[.int .i64 hx, .int .u64 lx] ∧ 0 ≤ lx ∧ lx < 18446744073709551616 ∧
    wideV (-x) = .agg #[.int .i64 (if lx = 0 then wrap64 (-hx) else wrap64 (wrap64 (-hx) - 1)), .int .u64 (IntKind.u64.wrap (-lx))] := by
  refine ⟨_, _, rfl, by omega, by omega, ?_⟩
  unfold wideV
  rw [IntKind.wrap_u64]
  have h1 := wrap64_eq (x / 18446744073709551616)
  have h3 := wrap64_eq ((-x) / 18446744073709551616)
  have h4 := wrap64_eq (-wrap64 (x / 18446744073709551616))
  have h5 := wrap64_eq (wrap64 (-wrap64 (x / 18446744073709551616)) - 1)
  have e1 : (-(x % 18446744073709551616)) % 18446744073709551616 = (-x) % 18446744073709551616 := by omega
  rw [e1]
  congr 3
  congr 1
  split <;> omega
theorem sum_math (x : Int) (h : -170141183460469231731687303715884105728 ≤ x ∧ x < 170141183460469231731687303715884105728) : ∃ hx lx hy, wideV x = .agg #[.int .i64 hx, .int .u64 lx] ∧ In64 (wrap64 lx) ∧ wideV (wrap64 lx) = .agg #[.int .i64 hy, .int .u64 lx] ∧
    two64 x = if hx = hy then .tuple #[.int .i64 (wrap64 lx), .int .i64 0] else .tuple #[.int .i64 0, .int .i64 2] := by
  have h1 := wrap64_eq (x / 18446744073709551616)
  have h2 := wrap64_eq (x % 18446744073709551616)
  have h3 := wrap64_eq (wrap64 (x % 18446744073709551616) / 18446744073709551616)
  have e1 : wrap64 (x % 18446744073709551616) % 18446744073709551616 = x % 18446744073709551616 := by omega
  refine ⟨_, _, wrap64 (wrap64 (x % 18446744073709551616) / 18446744073709551616), rfl, by unfold In64; omega, ?_, ?_⟩
  · unfold wideV
    rw [e1]
  · by_cases hin : In64 x
    · rw [two64_in hin]
      unfold In64 at hin
      have e2 : wrap64 (x % 18446744073709551616) = x := by omega
      rw [e2, if_pos rfl]
    · rw [two64_out hin]
      unfold In64 at hin
      rw [if_neg (by omega)]
end Go.Proofs.YtkkhdjchfhmliaaGreat

namespace Go.Proofs.YtkkhdjchfhmliaaGreat
open Go.RowKit Go.My
set_option linter.unusedSimpArgs false
set_option linter.unusedVariables false

/-- the cells of a number of two halves -/
def wideC (x : Int) : Array Value := #[.int .i64 (wrap64 (x / 18446744073709551616)), .int .u64 (x % 18446744073709551616)]
theorem wideC_zero : wideC 0 = #[.int .i64 0, .int .u64 0] := by unfold wideC; simp [wrap64]
end Go.Proofs.YtkkhdjchfhmliaaGreat
