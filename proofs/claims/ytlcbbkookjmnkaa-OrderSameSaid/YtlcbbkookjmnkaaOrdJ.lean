/- Ahead and Number of Ids. -/
import Derived.Test.YtlcbbkookjmnkaaOrdI
import Derived.StillTailTactics
namespace Go.My
open Go Go.RowKit
theorem wp_region_tailO {P : Program} {id : Nat} {Q : Exit → Act → World → Prop} {a : Act} {w : World} {l : List Oper} (n : Nat) (hm : P.follows .mixedOrders = true) (hB : Region.lexTailB .any l.toArray n = true)
    (h : ∀ w', w' = w.drew → wpStill P l.toArray w' (fun a' => wpList P l.toArray Q (l.drop n) a' w') (l.take n) a) : (Code.region id l.toArray true).wp P Q a w :=
  wp_region_still_tail n hm hB (h _ rfl)
end Go.My
namespace Go.Proofs.Ytlcbbkookjmnkaa
open Go.RowKit Go.My Go.Maps
set_option linter.unusedSimpArgs false
set_option linter.unusedVariables false
attribute [local go_sem ↓] Go.wp_at_zero Go.wp_at_succ

theorem nanI (n : Int) (w : World) : Calls Try.prog 84 #[.int .i64 n] w fun e w' => e = .returned (.bool false) ∧ w' = w := by
  go_enter Try.func84, Try.ntmps84
  go_wp2
  go_ret
  exact ⟨by simp, rfl⟩
def cmpI (x y : Int) : Int := if x < y then -1 else if y < x then 1 else 0
theorem compareI (x y : Int) (w : World) : Calls Try.prog 59 #[.int .i64 x, .int .i64 y] w fun e w' => e = .returned (.int .i64 (cmpI x y)) ∧ w' = w := by
  go_enter Try.func59, Try.ntmps59
  go_wp2_with (go_at_call 84; refine (nanI _ _).mono ?_; rintro e w' ⟨rfl, hw⟩; rw [hw])
  all_goals (go_ret; refine ⟨?_, rfl⟩; unfold cmpI; (repeat' split) <;> first | rfl | (exfalso; omega))
def orI (x y : Int) : Int := if x = 0 then y else x
theorem orI_any (g : Nat) (x y : Int) (w : World) (h0 : w.cell? ⟨g, 0, none⟩ = some (.int .i64 x)) (h1 : w.cell? ⟨g, 1, none⟩ = some (.int .i64 y)) : Calls Try.prog 58 #[.slice (some ⟨g, 0, none⟩) 2 2] w fun e w' => e = .returned (.int .i64 (orI x y)) ∧ w' = w := by
  go_enter Try.func58, Try.ntmps58
  by_cases hx : x = 0
  · subst hx
    by_cases hy : y = 0
    · subst hy
      go_wp2
      refine wp_loop_rounds 3 ?_
      rw [rounds_succ]
      go_wp2
      rw [rounds_succ]
      go_wp2
      rw [rounds_succ]
      go_wp2
      go_ret
      exact ⟨rfl, rfl⟩
    · go_wp2
      refine wp_loop_rounds 2 ?_
      rw [rounds_succ]
      go_wp2
      rw [rounds_succ]
      go_wp2
      go_ret
      exact ⟨rfl, rfl⟩
  · go_wp2
    refine wp_loop_rounds 1 ?_
    rw [rounds_succ]
    go_wp2
    go_ret
    exact ⟨by rw [show orI x y = x from if_neg hx]; rfl, rfl⟩
def aheadI (a b c d : Int) : Bool := decide (a < c ∨ (a = c ∧ b < d))
theorem ahead_or (a b c d : Int) : decide (orI (cmpI a c) (cmpI b d) < 0) = aheadI a b c d := by
  unfold orI cmpI aheadI
  (repeat' split) <;> simp <;> omega
set_option maxRecDepth 100000 in
set_option maxHeartbeats 2000000 in
theorem oahead_any (a b c d : Int) (W : World) : Calls Try.prog 27 #[.agg #[.int .i64 a, .int .i64 b], .agg #[.int .i64 c, .int .i64 d]] W fun e w' => e = .returned (.bool (aheadI a b c d)) ∧ Fr No W w' := by
  have hS := Lib.hid (fun W => compareI a c W)
  have hI := Lib.hid (fun W => compareI b d W)
  have hO := Lib.hid (fun g W => orI_any g (cmpI a c) (cmpI b d) W)
  have HR : Hid (decide (orI (cmpI a c) (cmpI b d) < 0) = aheadI a b c d) := ahead_or a b c d
  generalize aheadI a b c d = r at *
  generalize orI (cmpI a c) (cmpI b d) = z at *
  generalize cmpI a c = u at *
  generalize cmpI b d = v at *
  go_enter Try.func27, Try.ntmps27
  go_wp2
  refine wp_region_tailO 10 (by kernel_rfl) (by kernel_rfl) fun w6 hw6 => ?_
  have hb0 : Blk w6 W.heap.size 23 #[.int .i64 a, .int .i64 b] := by
    rw [hw6]
    exact (Blk.new W _ _).fr (((Fr.refl No _).alloc _).drew) (fun h => h)
  have hb1 : Blk w6 (W.heap.size + 1) 23 #[.int .i64 c, .int .i64 d] := by
    rw [hw6]
    have h := Blk.new (W.alloc (.cells #[.int .i64 a, .int .i64 b] 23)) 23 #[.int .i64 c, .int .i64 d]
    rw [World.size_alloc] at h
    exact h.fr ((Fr.refl No _).drew) (fun h => h)
  have x0 : w6.cell? ⟨W.heap.size, 0, none⟩ = some (.int .i64 a) := hb0.cell 0
  have x1 : w6.cell? ⟨W.heap.size, 1, none⟩ = some (.int .i64 b) := hb0.cell 1
  have y0 : w6.cell? ⟨W.heap.size + 1, 0, none⟩ = some (.int .i64 c) := hb1.cell 0
  have y1 : w6.cell? ⟨W.heap.size + 1, 1, none⟩ = some (.int .i64 d) := hb1.cell 1
  have HC := Lib.hid (hO.out w6.heap.size (w6.alloc (.cells #[.int .i64 u, .int .i64 v] 3)) ((Blk.new w6 3 #[.int .i64 u, .int .i64 v]).cell 0) ((Blk.new w6 3 #[.int .i64 u, .int .i64 v]).cell 1))
  have HW : Hid (Fr No W (w6.alloc (.cells #[.int .i64 u, .int .i64 v] 3))) := by
    rw [hw6]
    exact (((Fr.refl No _).alloc _).alloc _).drew.alloc _
  clear hw6 hb0 hb1
  simp only [List.take_succ_cons, List.take_zero, List.drop_succ_cons, List.drop_zero]
  repeat still_step
  still_call (hS.out w6)
  repeat still_step
  still_call (hI.out w6)
  refine wpStill_nil ?_
  go_wp2_with (go_at_call 58; refine HC.out.mono ?_; rintro e w7 ⟨rfl, rfl⟩)
  go_ret
  exact ⟨by rw [← HR.out]; simp, HW.out⟩
set_option maxRecDepth 100000 in
theorem refaheadI_any (a b c d : Int) (W : World) : Calls Try.prog 28 #[.agg #[.int .i64 a, .int .i64 b], .agg #[.int .i64 c, .int .i64 d]] W fun e w' => e = .returned (.bool (aheadI a b c d)) ∧ Fr No W w' := by
  have hb0 := (Blk.new W 23 #[.int .i64 a, .int .i64 b]).alloc (.cells #[.int .i64 c, .int .i64 d] 23)
  have hb1 := Blk.new (W.alloc (.cells #[.int .i64 a, .int .i64 b] 23)) 23 #[.int .i64 c, .int .i64 d]
  rw [World.size_alloc] at hb1
  have hf : Fr No W ((W.alloc (.cells #[.int .i64 a, .int .i64 b] 23)).alloc (.cells #[.int .i64 c, .int .i64 d] 23)) := ((Fr.refl _ _).alloc _).alloc _
  have HC : (a < c ∧ aheadI a b c d = true) ∨ (¬ a < c ∧ a = c ∧ aheadI a b c d = decide (b < d)) ∨ (¬ a < c ∧ a ≠ c ∧ aheadI a b c d = false) := by
    unfold aheadI
    by_cases h1 : a < c
    · left; exact ⟨h1, by simp [h1]⟩
    · by_cases h2 : a = c
      · right; left; exact ⟨h1, h2, by simp [h2]⟩
      · right; right; exact ⟨h1, h2, by simp [h1, h2]⟩
  go_enter Try.func28, Try.ntmps28
  go_upto_region 1 with (fail)
  generalize ((W.alloc (.cells #[.int .i64 a, .int .i64 b] 23)).alloc (.cells #[.int .i64 c, .int .i64 d] 23)) = w2 at *
  have x0 := hb0.cell 0
  have x1 := hb0.cell 1
  have y0 := hb1.cell 0
  have y1 := hb1.cell 1
  simp only [List.getElem?_toArray, List.getElem?_cons_zero, List.getElem?_cons_succ] at x0 x1 y0 y1
  have HF := Lib.hid hf
  clear hb0 hb1 hf
  rcases HC with ⟨h1, e⟩ | ⟨h1, h2, e⟩ | ⟨h1, h2, e⟩
  all_goals
    try subst h2
    have HE := Lib.hid e
    clear e
    go_wp2
    go_ret
    exact ⟨by rw [HE.out]; try rfl, HF.out⟩
set_option maxRecDepth 100000 in
theorem onumber_any (a b : Int) (W : World) : Calls Try.prog 29 #[.agg #[.int .i64 a, .int .i64 b]] W fun e w' => e = .returned (.int .i64 (wrap64 (wrap64 (1000 * a) + b))) ∧ Fr No W w' := by
  go_enter Try.func29, Try.ntmps29
  go_wp2
  go_ret
  exact ⟨rfl, (Fr.refl _ _).alloc _⟩
end Go.Proofs.Ytlcbbkookjmnkaa
