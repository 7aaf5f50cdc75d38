/- clash.Meet. -/
import Derived.Test.YtlanhclgbkhdlaaGreatClashE
namespace Go.Proofs.YtlanhclgbkhdlaaGreat
open Go.RowKit Go.My Go.Maps Go.WideMaps
set_option linter.unusedSimpArgs false
set_option linter.unusedVariables false
attribute [local go_sem ↓] Go.wp_at_zero Go.wp_at_succ

theorem each_all {α : Type} {R : List Value → α → Prop} {P : Value → Prop} {n : Nat} {cells : List Value} {l : List α} (hn : 0 < n) (h : Each R n cells l) (hR : ∀ cs x, R cs x → ∀ y ∈ cs, P y) : ∀ y ∈ cells, P y := by
  intro y hy
  obtain ⟨j, hj, rfl⟩ := List.mem_iff_getElem.1 hy
  have hlen := h.1
  have hi : j / n < l.length := by
    rw [Nat.div_lt_iff_lt_mul hn]
    omega
  have h2 := hR _ _ (h.2 (j / n) l[j / n] (List.getElem?_eq_getElem hi))
  apply h2
  rw [List.mem_iff_getElem?]
  refine ⟨j % n, ?_⟩
  rw [List.getElem?_take, if_pos (Nat.mod_lt _ hn), List.getElem?_drop]
  have e : j / n * n + j % n = j := by rw [Nat.mul_comm]; exact Nat.div_add_mod j n
  rw [e, List.getElem?_eq_getElem hj]
theorem each_append {α : Type} {R : List Value → α → Prop} {n : Nat} {cells cells2 : List Value} {l m : List α} (h : Each R n cells l) (h2 : Each R n cells2 m) : Each R n (cells ++ cells2) (l ++ m) := by
  refine ⟨by rw [List.length_append, h.1, h2.1, List.length_append, Nat.add_mul], fun i x hx => ?_⟩
  by_cases hi : i < l.length
  · rw [List.getElem?_append_left hi] at hx
    have h1 := h.2 i x hx
    have h3 : i * n + n ≤ cells.length := by rw [h.1]; have := Nat.mul_le_mul_right n (show i + 1 ≤ l.length from hi); rw [Nat.add_mul] at this; omega
    rw [List.drop_append_of_le_length (by omega), List.take_append_of_le_length (by rw [List.length_drop]; omega)]
    exact h1
  · rw [List.getElem?_append_right (by omega)] at hx
    have h1 := h2.2 _ x hx
    have e : i * n = cells.length + (i - l.length) * n := by
      rw [h.1, ← Nat.add_mul]
      congr 1
      omega
    rw [e, List.drop_append, List.drop_of_length_le (by omega), Nat.add_sub_cancel_left, List.nil_append]
    exact h1
theorem odrf_one {w : World} {F : Nat → Prop} (cs : List Value) (o : Od) (h : OdRF w F cs o) : ∀ y ∈ cs, y.oneCell' = true := by
  obtain ⟨v, rfl, _, _, hv⟩ := h
  obtain ⟨A, c, rfl, _, _⟩ := hv.form
  intro y hy
  unfold Od.cs at hy
  simp only [List.mem_cons, List.not_mem_nil, or_false] at hy
  rcases hy with rfl | rfl | rfl | rfl | rfl | rfl | rfl | rfl | rfl | rfl <;> rfl
end Go.Proofs.YtlanhclgbkhdlaaGreat
