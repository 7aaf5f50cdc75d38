/- How long a row of knots may be, of no program. -/
import Derived.Test.YtcjofakhefpfdaaKnMR
import Derived.Test.YtcjofakhefpfdaaKnI
namespace Go.My.Kn
set_option linter.unusedVariables false
theorem seq_len {n : Nat} {V : Nat → Nat → Bool} (h : Reach n V) {D : List Nat} {L : List (List Nat)} (hs : KnSeq n V D L) : D.Nodup → (∀ d ∈ D, d < n) → L.length + D.length ≤ n ∧ ∀ K ∈ L, K.length ≤ n := by
  induction hs with
  | nil _ => exact fun h1 h2 => ⟨by rw [List.length_nil, Nat.zero_add]; exact Go.Proofs.Ytcjofakhefpfdaa.nodup_leN h1 h2, fun K hK => by cases hK⟩
  | @cons D L i hf hl hs ih =>
    intro h1 h2
    have hn := least_name h hf hl
    have hD : i ∉ D := by have := hf.2.1; rw [hn] at this; exact this
    obtain ⟨h3, h4⟩ := ih (List.nodup_cons.2 ⟨hD, h1⟩) fun d hd => by
      rcases List.mem_cons.1 hd with rfl | hd
      · exact hf.1
      · exact h2 d hd
    rw [List.length_cons] at h3 ⊢
    refine ⟨by omega, fun K hK => ?_⟩
    rcases List.mem_cons.1 hK with rfl | hK
    · unfold cls
      exact Nat.le_trans (List.length_filter_le _ _) (Nat.le_of_eq List.length_range)
    · exact h4 K hK
theorem flat_len {α : Type} {m : Nat} : ∀ {L : List (List α)}, (∀ K ∈ L, K.length ≤ m) → L.flatten.length ≤ L.length * m
  | [], _ => by simp
  | K :: L, h => by
    have h1 := flat_len (L := L) fun K hK => h K (List.mem_cons_of_mem _ hK)
    have h2 := h K List.mem_cons_self
    rw [List.flatten_cons, List.length_append, List.length_cons, Nat.succ_mul]
    omega
end Go.My.Kn
