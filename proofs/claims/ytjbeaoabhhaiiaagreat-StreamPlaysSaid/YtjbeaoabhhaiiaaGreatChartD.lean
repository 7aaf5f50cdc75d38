/- What the laws on charts share: Same, early, scripts. -/
import Derived.Test.YtjbeaoabhhaiiaaGreatChartC
import Derived.Deep.QuietTactic
import Derived.BigQuiet
namespace Go.Proofs.YtjbeaoabhhaiiaaGreat
open Go.RowKit Go.My Go.Maps
set_option linter.unusedSimpArgs false
set_option linter.unusedVariables false
attribute [local go_sem ↓] Go.wp_at_zero Go.wp_at_succ

instance : DecidableEq Ac := fun a b =>
  if h : a.name = b.name ∧ a.hv = b.hv ∧ a.st = b.st ∧ a.lim = b.lim then isTrue (Ac.ext_ h.1 h.2.1 h.2.2.1 h.2.2.2) else isFalse fun e => h (by subst e; exact ⟨rfl, rfl, rfl, rfl⟩)

theorem acs_get (S : List Ac) : ∀ (k i : Nat) (hk : k < S.length), i < 4 → (acs S)[k * 4 + i]? = (acC S[k])[i]? := by
  induction S with
  | nil => intro k i hk; simp at hk
  | cons a S ih =>
    intro k i hk hi
    show (acC a ++ acs S)[k * 4 + i]? = _
    cases k with
    | zero => rw [List.getElem?_append_left (by simp [acC]; omega)]; simp
    | succ k =>
      rw [List.getElem?_append_right (by simp [acC]; omega)]
      have := ih k i (by simp at hk; omega) hi
      simp only [List.getElem_cons_succ]
      rw [← this]
      congr 1
      simp [acC]
      omega
theorem acs_at {w : World} {F : Nat → Prop} {A : Option Addr} {S : List Ac} (h : Rd w F 4 A S.length (acs S)) (k : Nat) (hk : k < S.length) :
    ∃ ad, A = some ad ∧ F ad.block ∧ w.cell? (ad.add (k * 4)) = some (.string ⟨S[k].name.toArray⟩) ∧ w.cell? ⟨(ad.add (k * 4)).block, (ad.add (k * 4)).off + 1, none⟩ = some (.int .i64 S[k].hv) ∧
      w.cell? ⟨(ad.add (k * 4)).block, (ad.add (k * 4)).off + 2, none⟩ = some (.int .i64 S[k].st) ∧ w.cell? ⟨(ad.add (k * 4)).block, (ad.add (k * 4)).off + 3, none⟩ = some (.int .i64 S[k].lim) := by
  obtain ⟨ad, rfl, hF, hc⟩ := h.2 (by omega)
  refine ⟨ad, rfl, hF, hc (k * 4) _ (by have := acs_get S k 0 hk (by omega); rw [Nat.add_zero] at this; rw [this]; rfl), ?_, ?_, ?_⟩
  · rw [← add_lits ad (k * 4) 1 (by omega)]
    exact hc _ _ (by rw [acs_get S k 1 hk (by omega)]; rfl)
  · rw [← add_lits ad (k * 4) 2 (by omega)]
    exact hc _ _ (by rw [acs_get S k 2 hk (by omega)]; rfl)
  · rw [← add_lits ad (k * 4) 3 (by omega)]
    exact hc _ _ (by rw [acs_get S k 3 hk (by omega)]; rfl)

theorem neq_ac (a b : Ac) (W : World) (h : a ≠ b) : (binOp .neq 80 (.agg #[.string ⟨a.name.toArray⟩, .int .i64 a.hv, .int .i64 a.st, .int .i64 a.lim]) (.agg #[.string ⟨b.name.toArray⟩, .int .i64 b.hv, .int .i64 b.st, .int .i64 b.lim])).run Tryz.prog W = .ok (.bool true) W := by
  have key : a.name = b.name → a.hv = b.hv → a.st = b.st → ¬ a.lim = b.lim := fun h1 h2 h3 h4 => h (Ac.ext_ h1 h2 h3 h4)
  simp [go_sem]
  exact key
def SameARel (S T : List Ac) (w : World) (i : Value) (wr : World) : Prop :=
  ∃ k j : Nat, k ≤ S.length ∧ i = .int .i64 k ∧ S.take k = T.take k ∧ wr = w.drewN j

end Go.Proofs.YtjbeaoabhhaiiaaGreat
