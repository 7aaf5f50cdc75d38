/- The walk's steps: of no program. -/
import Derived.Test.YtcjofakhefpfdaaKnM1
set_option linter.unusedVariables false
set_option linter.unusedSimpArgs false
namespace Go.My
section
variable {n : Nat} {G : Nat → List Nat} {s : Ts} {R : List (Nat × Nat)} {v k : Nat}
theorem TI.reach (h : TI n G s ((v, k) :: R)) : ∀ g j, (g, j) ∈ (v, k) :: R → Rch G g v := fun g j hg => by
  have hv := h.pl v k List.mem_cons_self
  refine h.fromG g j hg v hv ?_
  rcases List.mem_cons.1 hg with e | hg
  · injection e with e _; rw [e]; exact Nat.le_refl _
  · have := h.pd
    rw [List.pairwise_cons] at this
    exact Nat.le_of_lt (this.1 (g, j) hg)
theorem from_meet (h : TI n G s ((v, k) :: R)) (hk : k < (G v).length) (h0 : s.seen (G v)[k] = 0) (hG : ∀ x, x < n → ∀ y ∈ G x, y < n) : TI n G (s.meet (G v)[k]) (((G v)[k], 0) :: (v, k + 1) :: R) := by
  have hvl := h.pl v k List.mem_cons_self
  have hv0 := h.lseen v hvl
  have hvn := h.rng v hv0
  have hx : (G v)[k] < n := hG v hvn _ (List.getElem_mem hk)
  have h1 := h.meet hx h0 fun g j hg => (h.reach g j hg).step (List.getElem_mem hk)
  have hne : v ≠ (G v)[k] := fun e => hv0 (by rw [e]; exact h0)
  refine h1.bump (A := [((G v)[k], 0)]) hk ?_ fun _ => ?_
  · show upN s.seen (G v)[k] (s.met + 1) (G v)[k] ≠ 0
    rw [upN_at]; omega
  · show upN s.low (G v)[k] (s.met + 1) v ≤ upN s.seen (G v)[k] (s.met + 1) (G v)[k]
    rw [upN_at, upN_ne _ _ hne]
    have := (h.low1 v k List.mem_cons_self).1
    have := h.le v
    omega
theorem from_low (h : TI n G s ((v, k) :: R)) (hk : k < (G v).length) (hs : s.seen (G v)[k] ≠ 0) (hl : (G v)[k] ∈ s.loose) : TI n G (s.lower v (s.seen (G v)[k])) ((v, k + 1) :: R) := by
  have h1 := h.lower List.mem_cons_self hl (Rch.one (List.getElem_mem hk))
  refine h1.bump (A := []) hk hs fun _ => ?_
  show upN s.low v (min (s.low v) (s.seen (G v)[k])) v ≤ s.seen (G v)[k]
  rw [upN_at]; exact Nat.min_le_right _ _
theorem from_skip (h : TI n G s ((v, k) :: R)) (hk : k < (G v).length) (hs : s.seen (G v)[k] ≠ 0) (hl : (G v)[k] ∉ s.loose) : TI n G s ((v, k + 1) :: R) :=
  h.bump (A := []) hk hs fun e => absurd e hl
theorem from_tie (h : TI n G s ((v, (G v).length) :: R)) (hl : s.low v = s.seen v) : ∃ A B, s.loose = A ++ v :: B ∧ v ∉ B ∧
    ∀ K : List Nat, K.Pairwise (· < ·) → (∀ x, x ∈ K ↔ x ∈ v :: B) → TI n G (s.tie A K) R ∧ ∀ u j R', R = (u, j) :: R' → (s.tie A K).lower u (s.low v) = s.tie A K := by
  have hvl := h.pl v _ List.mem_cons_self
  obtain ⟨A, B, e⟩ := List.append_of_mem hvl
  have hnd := h.nodup
  rw [e] at hnd
  have hvB : v ∉ B := by
    have := (List.nodup_append.1 hnd).2.1
    exact (List.nodup_cons.1 this).1
  refine ⟨A, B, e, hvB, fun K hK hm => ⟨h.tie hl e hK hm, fun u j R' hR => ?_⟩⟩
  subst hR
  have hpd := h.pd
  rw [List.pairwise_cons] at hpd
  have hu := hpd.1 (u, j) List.mem_cons_self
  have hlu := (h.low1 u j (List.mem_cons_of_mem _ List.mem_cons_self)).1
  unfold Ts.lower Ts.tie
  have : upN s.low u (min (s.low u) (s.low v)) = s.low := by
    funext x
    by_cases e : x = u
    · rw [e, upN_at]; exact Nat.min_eq_left (by have hu' : s.seen u < s.seen v := hu; omega)
    · exact upN_ne _ _ e
  simp only [this]
theorem from_pop (h : TI n G s ((v, (G v).length) :: R)) (hl : s.low v ≠ s.seen v) : ∃ u j R', R = (u, j) :: R' ∧ TI n G (s.lower u (s.low v)) R := by
  have hlt : s.low v < s.seen v := by
    have := (h.low1 v _ List.mem_cons_self).1
    omega
  obtain ⟨u, j, R', rfl⟩ := h.pop_more hlt
  exact ⟨u, j, R', rfl, h.pop hlt⟩
/-- how many are not met yet -/
def uns (s : Ts) (n : Nat) : Nat := ((List.range n).filter fun x => s.seen x == 0).length
theorem uns_meet {x : Nat} (hx : x < n) (h0 : s.seen x = 0) : uns (s.meet x) n + 1 = uns s n := by
  unfold uns
  have key : ∀ l : List Nat, l.Nodup → (l.filter fun y => (s.meet x).seen y == 0).length + (if x ∈ l then 1 else 0) = (l.filter fun y => s.seen y == 0).length := by
    intro l hl
    induction l with
    | nil => rfl
    | cons a l ih =>
      rw [List.nodup_cons] at hl
      have ih := ih hl.2
      rw [List.filter_cons, List.filter_cons]
      by_cases e : a = x
      · subst e
        have h1 : ((s.meet a).seen a == 0) = false := by
          show (upN s.seen a (s.met + 1) a == 0) = false
          rw [upN_at]; simp
        have h2 : (s.seen a == 0) = true := by simpa using h0
        rw [h1, h2, if_pos List.mem_cons_self]
        rw [if_neg hl.1] at ih
        simp only [Bool.false_eq_true, if_false, if_true, List.length_cons]
        omega
      · have h1 : (s.meet x).seen a = s.seen a := upN_ne _ _ e
        rw [h1]
        have h3 : (x ∈ a :: l) ↔ x ∈ l := by rw [List.mem_cons]; exact ⟨fun h => h.resolve_left fun e2 => e e2.symm, .inr⟩
        simp only [h3]
        cases hc : s.seen a == 0
        · simp only [Bool.false_eq_true, if_false]; exact ih
        · simp only [if_true, List.length_cons]; omega
  have := key (List.range n) List.nodup_range
  rw [if_pos (List.mem_range.2 hx)] at this
  exact this
/-- all are met, and all knots are found -/
theorem TI.all (h : TI n G s []) (hs : ∀ x, x < n → s.seen x ≠ 0) : (∀ K ∈ s.found, IsKnot G K) ∧ (∀ x, x < n ↔ ∃ K ∈ s.found, x ∈ K) ∧ s.found.flatten.Nodup := by
  refine ⟨h.fd, fun x => ⟨fun hx => (h.fmem x).1 ⟨hs x hx, by rw [h.empty]; exact List.not_mem_nil⟩, fun hx => h.rng x ((h.fmem x).2 hx).1⟩, h.fnd⟩
end
end Go.My
