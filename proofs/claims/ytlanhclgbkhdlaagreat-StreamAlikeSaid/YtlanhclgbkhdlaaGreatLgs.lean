/- Legs as cells. -/
import Derived.Test.YtlanhclgbkhdlaaGreatQ05
namespace Go.Proofs.YtlanhclgbkhdlaaGreat
open Go.RowKit Go.My Go.Maps
set_option linter.unusedSimpArgs false
set_option linter.unusedVariables false

theorem elL : El Tryz.prog 29 92 2 24 := ⟨Tryz.underlying29, by
  have h : (Tryz.prog.info? 92).map (fun i => (i.zero, i.size, i.bytes)) = some (some (.agg #[.string ⟨#[]⟩, .int .i64 0]), 2, 24) := by kernel_rfl
  obtain ⟨i, hi, hz, hs, hb⟩ := info_parts h
  exact ⟨i, _, hi, hz, hs, hb, rfl⟩, by omega⟩
/-- a leg's cells -/
def lgC (g : Lg) : List Value := [.string g.acct, .int .i64 g.sum]
def lgs (L : List Lg) : List Value := L.flatMap lgC
theorem lgs_length (L : List Lg) : (lgs L).length = L.length * 2 := by
  induction L with
  | nil => rfl
  | cons g r ih => show (lgC g ++ lgs r).length = _; rw [List.length_append, ih]; simp [lgC]; omega
theorem lgs_append (L R : List Lg) : lgs (L ++ R) = lgs L ++ lgs R := by unfold lgs; rw [List.flatMap_append]
theorem lgs_ones (L : List Lg) : ∀ y ∈ lgs L, y.oneCell' = true := by
  intro y hy
  unfold lgs at hy
  rw [List.mem_flatMap] at hy
  obtain ⟨a, _, ha⟩ := hy
  simp only [lgC, List.mem_cons, List.not_mem_nil, or_false] at ha
  rcases ha with rfl | rfl <;> rfl
theorem lgs_each : ∀ L : List Lg, (∀ g ∈ L, g.ok) → Each RdLg 2 (lgs L) L
  | [], _ => ⟨rfl, fun i x hx => by simp at hx⟩
  | g :: r, h => by
    obtain ⟨h1, h2⟩ := lgs_each r fun x hx => h x (List.mem_cons_of_mem _ hx)
    refine ⟨lgs_length _, fun i x hx => ?_⟩
    cases i with
    | zero =>
      simp only [List.getElem?_cons_zero, Option.some.injEq] at hx
      subst hx
      exact ⟨rfl, h g List.mem_cons_self⟩
    | succ i =>
      rw [List.getElem?_cons_succ] at hx
      have := h2 i x hx
      show RdLg (((lgC g ++ lgs r).drop ((i + 1) * 2)).take 2) x
      rw [List.drop_append, List.drop_of_length_le (by simp [lgC]; omega)]
      simpa [lgC, show (i + 1) * 2 - 2 = i * 2 by omega] using this
/-- cells of legs are these -/
theorem each_lgs : ∀ (L : List Lg) (cells : List Value), Each RdLg 2 cells L → cells = lgs L
  | [], cells, h => by
    have := h.1
    simp at this
    rw [this]
    rfl
  | g :: r, cells, h => by
    have h0 := (h.2 0 g rfl).1
    rw [Nat.zero_mul, List.drop_zero] at h0
    have hr := each_lgs r (cells.drop 2) ⟨by rw [List.length_drop, h.1, List.length_cons]; omega, fun i x hx => by
      have := h.2 (i + 1) x (by rw [List.getElem?_cons_succ]; exact hx)
      rw [List.drop_drop]
      rwa [show 2 + i * 2 = (i + 1) * 2 by omega]⟩
    show cells = lgC g ++ lgs r
    have e := List.take_append_drop 2 cells
    rw [h0, hr] at e
    exact e.symm

end Go.Proofs.YtlanhclgbkhdlaaGreat
