/- The document's row of knots, of no program: what is free by marks, the least that is free, marks of a knot. -/
import Derived.Test.YtcjofakhefpfdaaKnM4
set_option linter.unusedVariables false
set_option linter.unusedSimpArgs false
namespace Go.My.Kn

/-- what is done, by the names D -/
def dnF (n : Nat) (V : Nat → Nat → Bool) (D : List Nat) (k : Nat) : Bool := D.contains (nm n V k)
/-- free, as far as the first k say -/
def frB (V : Nat → Nat → Bool) (dn : Nat → Bool) (i k : Nat) : Bool := !dn i && (List.range k).all fun b => !(V i b && !V b i && !dn b)
section
variable {n : Nat} {V : Nat → Nat → Bool}
theorem dnF_iff (D : List Nat) (k : Nat) : dnF n V D k = true ↔ nm n V k ∈ D := by unfold dnF; simp
theorem dnF_nil (k : Nat) : dnF n V [] k = false := by unfold dnF; simp
theorem frB_zero (dn : Nat → Bool) (i : Nat) : frB V dn i 0 = !dn i := by unfold frB; simp
theorem frB_step (dn : Nat → Bool) (i k : Nat) : frB V dn i (k + 1) = (frB V dn i k && !(V i k && !V k i && !dn k)) := by
  unfold frB; rw [List.range_succ, List.all_append, List.all_cons, List.all_nil, Bool.and_true]; exact (Bool.and_assoc _ _ _).symm
theorem frB_iff (h : Reach n V) (D : List Nat) {i : Nat} (hi : i < n) : frB V (dnF n V D) i n = true ↔ Free n V D i := by
  unfold frB Free
  rw [Bool.and_eq_true, List.all_eq_true, Bool.not_eq_true']
  constructor
  · rintro ⟨h1, h2⟩
    refine ⟨hi, fun hm => ?_, fun k hk hk2 => ?_⟩
    · rw [(dnF_iff D i).2 hm] at h1; cases h1
    · have h3 := h2 k (List.mem_range.2 (h.lt _ _ hk).2)
      rw [hk, hk2] at h3
      have h4 : dnF n V D k = true := by simpa using h3
      exact (dnF_iff D k).1 h4
  · rintro ⟨_, h1, h2⟩
    refine ⟨?_, fun k _ => ?_⟩
    · cases hd : dnF n V D i with
      | false => rfl
      | true => exact absurd ((dnF_iff D i).1 hd) h1
    · cases h3 : V i k with
      | false => rfl
      | true =>
        cases h4 : V k i with
        | true => rfl
        | false => rw [(dnF_iff D k).2 (h2 k h3 h4)]; rfl

/-- the least from j on of which P holds, or -1 -/
def NxR (P : Nat → Bool) (n j : Nat) (v : Int) : Prop := (v = -1 ∧ ∀ i, j ≤ i → i < n → P i = false) ∨ ∃ a : Nat, v = (a : Int) ∧ j ≤ a ∧ a < n ∧ P a = true ∧ ∀ i, j ≤ i → i < a → P i = false
theorem NxR.begin (P : Nat → Bool) (n : Nat) : NxR P n n (-1) := .inl ⟨rfl, fun i h1 h2 => by omega⟩
theorem NxR.yes {P : Nat → Bool} {n j : Nat} {v : Int} (h : NxR P n (j + 1) v) (hj : j < n) (hp : P j = true) : NxR P n j (j : Int) := .inr ⟨j, rfl, Nat.le_refl _, hj, hp, fun i h1 h2 => by omega⟩
theorem NxR.no {P : Nat → Bool} {n j : Nat} {v : Int} (h : NxR P n (j + 1) v) (hp : P j = false) : NxR P n j v := by
  rcases h with ⟨h1, h2⟩ | ⟨a, h1, h2, h3, h4, h5⟩
  · refine .inl ⟨h1, fun i hi hn => ?_⟩
    rcases Nat.eq_or_lt_of_le hi with e | e
    · rw [← e]; exact hp
    · exact h2 i e hn
  · refine .inr ⟨a, h1, by omega, h3, h4, fun i hi hn => ?_⟩
    rcases Nat.eq_or_lt_of_le hi with e | e
    · rw [← e]; exact hp
    · exact h5 i e hn
theorem NxR.lt {P : Nat → Bool} {n j : Nat} {v : Int} (h : NxR P n j v) : -1 ≤ v ∧ v < (n : Int) ∨ v = -1 := by
  rcases h with ⟨h1, _⟩ | ⟨a, h1, _, h3, _⟩
  · exact .inr h1
  · exact .inl ⟨by omega, by omega⟩

/-- the marks, when the first j have been looked at -/
def mkF (dn : Nat → Bool) (V : Nat → Nat → Bool) (a j b : Nat) : Bool := dn b || (decide (b < j) && mu V a b)
theorem mkF_zero (dn : Nat → Bool) (a b : Nat) : mkF dn V a 0 b = dn b := by unfold mkF; simp
theorem mkF_no (dn : Nat → Bool) (a j b : Nat) (h : mu V a j = false) : mkF dn V a (j + 1) b = mkF dn V a j b := by
  unfold mkF
  by_cases e : b = j
  · subst e; rw [h]; simp
  · have : decide (b < j + 1) = decide (b < j) := by rw [Bool.eq_iff_iff, decide_eq_true_iff, decide_eq_true_iff]; omega
    rw [this]
theorem mkF_yes (dn : Nat → Bool) (a j b : Nat) (h : mu V a j = true) : (if b = j then true else mkF dn V a j b) = mkF dn V a (j + 1) b := by
  unfold mkF
  by_cases e : b = j
  · subst e; rw [h, if_pos rfl]; simp
  · have : decide (b < j + 1) = decide (b < j) := by rw [Bool.eq_iff_iff, decide_eq_true_iff, decide_eq_true_iff]; omega
    rw [this, if_neg e]
theorem mkF_last (h : Reach n V) (D : List Nat) {a b : Nat} (ha : a < n) (hna : nm n V a = a) (hb : b < n) : mkF (dnF n V D) V a n b = dnF n V (a :: D) b := by
  rw [Bool.eq_iff_iff, dnF_iff, List.mem_cons]
  unfold mkF
  rw [Bool.or_eq_true, Bool.and_eq_true, dnF_iff, decide_eq_true_iff]
  have h1 : nm n V b = a ↔ mu V a b = true := by
    rw [← nm_eq h ha hb, hna]; exact ⟨fun e => e.symm, fun e => e.symm⟩
  rw [h1]
  exact ⟨fun e => e.elim .inr fun e => .inl e.2, fun e => e.elim (fun e => .inr ⟨hb, e⟩) .inl⟩
theorem cls_step (a j : Nat) : (List.range (j + 1)).filter (mu V a) = (List.range j).filter (mu V a) ++ if mu V a j then [j] else [] := by
  rw [List.range_succ, List.filter_append]
  congr 1
  rw [List.filter_cons, List.filter_nil]
/-- two rows of knots of one graph -/
theorem mu_cases (a j : Nat) : mu V a j = (decide (j = a) || (V a j && V j a)) := by
  unfold mu
  congr 1
end
end Go.My.Kn
