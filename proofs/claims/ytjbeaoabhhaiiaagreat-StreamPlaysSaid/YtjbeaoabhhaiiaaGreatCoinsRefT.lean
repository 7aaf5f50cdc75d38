/- Contracts of the document's own answers for coins: numbers of two halves. -/
import Derived.Test.YtjbeaoabhhaiiaaGreatCoinsT
import Derived.Handy
namespace Go.Proofs.YtjbeaoabhhaiiaaGreat
open Go.RowKit Go.My
set_option linter.unusedSimpArgs false
set_option linter.unusedVariables false

/-- a number of two halves -/
def wideV (x : Int) : Value := .agg #[.int .i64 (wrap64 (x / 18446744073709551616)), .int .u64 (x % 18446744073709551616)]

set_option maxHeartbeats 1000000 in
theorem of_any (a : Int) (w : World) (ha : In64 a) : Calls Tryz.prog 149 #[.int .i64 a] w fun e w' => e = .returned (wideV a) ∧ Below w.heap.size w w' := by
  have hw : wideV a = .agg #[.int .i64 (if a < 0 then -1 else 0), .int .u64 (IntKind.u64.wrap a)] := by
    unfold wideV
    unfold In64 at ha
    have h1 := wrap64_eq (a / 18446744073709551616)
    have h2 : wrap64 (a / 18446744073709551616) = if a < 0 then -1 else 0 := by split <;> omega
    rw [h2, IntKind.wrap_u64]
  rw [hw]
  clear hw ha
  by_cases h : a < 0
  all_goals
    go_enter Tryz.func149, Tryz.ntmps149
    go_wp2
    go_returns
    refine ⟨?_, Fr.belowNo (by repeat (first | exact Fr.refl _ _ | refine Fr.alloc ?_ _))⟩
    rfl

theorem plus_math (x y : Int) : ∃ hx hy lx ly, wideV x = .agg #[.int .i64 hx, .int .u64 lx] ∧ wideV y = .agg #[.int .i64 hy, .int .u64 ly] ∧ 0 ≤ lx ∧ lx < 18446744073709551616 ∧ 0 ≤ ly ∧ ly < 18446744073709551616 ∧
    wideV (x + y) = .agg #[.int .i64 (if IntKind.u64.wrap (lx + ly) < lx then wrap64 (wrap64 (hx + hy) + 1) else wrap64 (hx + hy)), .int .u64 (IntKind.u64.wrap (lx + ly))] := by
  refine ⟨_, _, _, _, rfl, rfl, by omega, by omega, by omega, by omega, ?_⟩
  unfold wideV
  rw [IntKind.wrap_u64]
  have h1 := wrap64_eq (x / 18446744073709551616)
  have h2 := wrap64_eq (y / 18446744073709551616)
  have h3 := wrap64_eq ((x + y) / 18446744073709551616)
  have h4 := wrap64_eq (wrap64 (x / 18446744073709551616) + wrap64 (y / 18446744073709551616))
  have h5 := wrap64_eq (wrap64 (wrap64 (x / 18446744073709551616) + wrap64 (y / 18446744073709551616)) + 1)
  have e1 : (x % 18446744073709551616 + y % 18446744073709551616) % 18446744073709551616 = (x + y) % 18446744073709551616 := by omega
  rw [e1]
  congr 3
  congr 1
  split <;> omega

set_option maxHeartbeats 1000000 in
theorem plus_any (x y : Int) (w : World) : Calls Tryz.prog 148 #[wideV x, wideV y] w fun e w' => e = .returned (wideV (x + y)) ∧ Below w.heap.size w w' := by
  obtain ⟨hx, hy, lx, ly, e1, e2, h1, h2, h3, h4, e3⟩ := plus_math x y
  rw [e1, e2, e3]
  clear e1 e2 e3
  by_cases h : IntKind.u64.wrap (lx + ly) < lx
  all_goals
    go_enter Tryz.func148, Tryz.ntmps148
    go_wp2
    go_returns
    refine ⟨?_, Fr.belowNo (by repeat (first | exact Fr.refl _ _ | refine Fr.alloc ?_ _))⟩
    rfl

theorem minus_math (x : Int) : ∃ hx lx, wideV x = .agg #[.int .i64 hx, .int .u64 lx] ∧ 0 ≤ lx ∧ lx < 18446744073709551616 ∧
    wideV (-x) = .agg #[.int .i64 (if lx = 0 then wrap64 (-hx) else wrap64 (wrap64 (-hx) - 1)), .int .u64 (IntKind.u64.wrap (-lx))] := by
  refine ⟨_, _, rfl, by omega, by omega, ?_⟩
  unfold wideV
  rw [IntKind.wrap_u64]
  have h1 := wrap64_eq (x / 18446744073709551616)
  have h3 := wrap64_eq ((-x) / 18446744073709551616)
  have h4 := wrap64_eq (-wrap64 (x / 18446744073709551616))
  have h5 := wrap64_eq (wrap64 (-wrap64 (x / 18446744073709551616)) - 1)
  have e1 : (-(x % 18446744073709551616)) % 18446744073709551616 = (-x) % 18446744073709551616 := by omega
  rw [e1]
  congr 3
  congr 1
  split <;> omega
set_option maxHeartbeats 1000000 in
theorem minus_any (x : Int) (w : World) : Calls Tryz.prog 151 #[wideV x] w fun e w' => e = .returned (wideV (-x)) ∧ Below w.heap.size w w' := by
  obtain ⟨hx, lx, e1, h1, h2, e3⟩ := minus_math x
  rw [e1, e3]
  clear e1 e3
  by_cases h : lx = 0
  all_goals
    go_enter Tryz.func151, Tryz.ntmps151
    go_wp2
    go_returns
    refine ⟨?_, Fr.belowNo (by repeat (first | exact Fr.refl _ _ | refine Fr.alloc ?_ _))⟩
    first | rfl | (subst h; rfl)

theorem sum_math (x : Int) (h : -170141183460469231731687303715884105728 ≤ x ∧ x < 170141183460469231731687303715884105728) : ∃ hx lx hy, wideV x = .agg #[.int .i64 hx, .int .u64 lx] ∧ In64 (wrap64 lx) ∧ wideV (wrap64 lx) = .agg #[.int .i64 hy, .int .u64 lx] ∧
    two64 x = if hx = hy then .tuple #[.int .i64 (wrap64 lx), .int .i64 0] else .tuple #[.int .i64 0, .int .i64 2] := by
  have h1 := wrap64_eq (x / 18446744073709551616)
  have h2 := wrap64_eq (x % 18446744073709551616)
  have h3 := wrap64_eq (wrap64 (x % 18446744073709551616) / 18446744073709551616)
  have e1 : wrap64 (x % 18446744073709551616) % 18446744073709551616 = x % 18446744073709551616 := by omega
  refine ⟨_, _, wrap64 (wrap64 (x % 18446744073709551616) / 18446744073709551616), rfl, by unfold In64; omega, ?_, ?_⟩
  · unfold wideV
    rw [e1]
  · by_cases hin : In64 x
    · rw [two64_in hin]
      unfold In64 at hin
      have e2 : wrap64 (x % 18446744073709551616) = x := by omega
      rw [e2, if_pos rfl]
    · rw [two64_out hin]
      unfold In64 at hin
      rw [if_neg (by omega)]
set_option maxHeartbeats 1000000 in
theorem sumw_any (x : Int) (w : World) (h : -170141183460469231731687303715884105728 ≤ x ∧ x < 170141183460469231731687303715884105728) : Calls Tryz.prog 150 #[wideV x] w fun e w' => e = .returned (two64 x) ∧ Below w.heap.size w w' := by
  obtain ⟨hx, lx, hy, e1, h1, e2, e3⟩ := sum_math x h
  rw [e1, e3]
  clear e1 e3 h
  have HOF := Lib.hid fun W => of_any (wrap64 lx) W h1
  rw [e2] at HOF
  clear e2
  have hcell : Hid (∀ w2, Below (w.heap.size + 1) (w.alloc (.cells #[.int .i64 hx, .int .u64 lx] 208)).drew w2 → w2.cell? ⟨w.heap.size, 0, none⟩ = some (.int .i64 hx) ∧ w2.cell? ⟨w.heap.size, 1, none⟩ = some (.int .u64 lx) ∧ Below w.heap.size w w2) := fun w2 hb => by
    have h2 : Blk (w.alloc (.cells #[.int .i64 hx, .int .u64 lx] 208)).drew w.heap.size 208 #[.int .i64 hx, .int .u64 lx] := Blk.new _ _ _
    have h3 := h2.below hb (Nat.lt_succ_self _)
    refine ⟨h3.cell 0, h3.cell 1, ?_⟩
    exact (below_drewN ((Below.refl _ _).alloc (Nat.le_refl _) _) 1).trans (hb.mono (Nat.le_succ _))
  by_cases hxy : hx = hy
  · subst hxy
    go_enter Tryz.func150, Tryz.ntmps150
    go_wp2_with fail
    go_region_with (go_at_call 149; rw [IntWalk.i64_left]; refine (HOF.out _).mono ?_; rintro e w2 ⟨rfl, hb2⟩; obtain ⟨hc0, hc1, hb3⟩ := hcell.out _ (by simpa using hb2))
    all_goals
      go_wp2
      go_returns
      exact ⟨rfl, hb3⟩
  · have hne : (hx == hy) = false := by rw [beq_eq_false_iff_ne]; exact hxy
    rw [if_neg hxy]
    have hxy2 := Lib.hid hxy
    clear hxy
    go_enter Tryz.func150, Tryz.ntmps150
    go_wp2_with fail
    go_region_with (go_at_call 149; rw [IntWalk.i64_left]; refine (HOF.out _).mono ?_; rintro e w2 ⟨rfl, hb2⟩; obtain ⟨hc0, hc1, hb3⟩ := hcell.out _ (by simpa using hb2))
    all_goals
      go_wp2
      go_returns
      exact ⟨rfl, hb3⟩

theorem refadd_any (a b : Int) (w : World) (ha : In64 a) (hb : In64 b) : Calls Tryz.prog 126 #[.int .i64 a, .int .i64 b] w fun e w' => e = .returned (two64 (a + b)) ∧ Below w.heap.size w w' := by
  have h1 := Lib.hid fun W => of_any a W ha
  have h2 := Lib.hid fun W => of_any b W hb
  have h3 := Lib.hid fun W => plus_any a b W
  have h4 := Lib.hid fun W => sumw_any (a + b) W (by unfold In64 at ha hb; omega)
  unfold two64 at h4 ⊢
  generalize sumV (a + b) = v at *
  generalize ((sumN (a + b) : Nat) : Int) = n at *
  clear ha hb
  go_enter Tryz.func126, Tryz.ntmps126
  go_wp2_with fail
  refine (h1.out _).mono ?_
  rintro e w1 ⟨rfl, hb1⟩
  go_wp2_with fail
  refine (h2.out _).mono ?_
  rintro e w2 ⟨rfl, hb2⟩
  go_wp2_with fail
  refine (h3.out _).mono ?_
  rintro e w3 ⟨rfl, hb3⟩
  go_wp2_with fail
  refine (h4.out _).mono ?_
  rintro e w4 ⟨rfl, hb4⟩
  have hb2' := below_fresh hb1 hb2 hb1.size
  have hb3' := below_fresh hb2' hb3 hb2'.size
  have hb4' := below_fresh hb3' hb4 hb3'.size
  go_wp2
  go_ret2
  exact ⟨rfl, hb4'⟩
theorem refless_any (a b : Int) (w : World) (ha : In64 a) (hb : In64 b) : Calls Tryz.prog 125 #[.int .i64 a, .int .i64 b] w fun e w' => e = .returned (two64 (a - b)) ∧ Below w.heap.size w w' := by
  have h1 := Lib.hid fun W => of_any a W ha
  have h2 := Lib.hid fun W => of_any b W hb
  have h3 := Lib.hid fun W => minus_any b W
  have h4 := Lib.hid fun W => plus_any a (-b) W
  have h5 := Lib.hid fun W => sumw_any (a + -b) W (by unfold In64 at ha hb; omega)
  rw [← Int.sub_eq_add_neg] at h4 h5
  unfold two64 at h5 ⊢
  generalize sumV (a - b) = v at *
  generalize ((sumN (a - b) : Nat) : Int) = n at *
  clear ha hb
  go_enter Tryz.func125, Tryz.ntmps125
  go_wp2_with fail
  refine (h1.out _).mono ?_
  rintro e w1 ⟨rfl, hb1⟩
  go_wp2_with fail
  refine (h2.out _).mono ?_
  rintro e w2 ⟨rfl, hb2⟩
  go_wp2_with fail
  refine (h3.out _).mono ?_
  rintro e w3 ⟨rfl, hb3⟩
  go_wp2_with fail
  refine (h4.out _).mono ?_
  rintro e w4 ⟨rfl, hb4⟩
  go_wp2_with fail
  refine (h5.out _).mono ?_
  rintro e w5 ⟨rfl, hb5⟩
  have hb2' := below_fresh hb1 hb2 hb1.size
  have hb3' := below_fresh hb2' hb3 hb2'.size
  have hb4' := below_fresh hb3' hb4 hb3'.size
  have hb5' := below_fresh hb4' hb5 hb4'.size
  go_wp2
  go_ret2
  exact ⟨rfl, hb5'⟩
end Go.Proofs.YtjbeaoabhhaiiaaGreat
