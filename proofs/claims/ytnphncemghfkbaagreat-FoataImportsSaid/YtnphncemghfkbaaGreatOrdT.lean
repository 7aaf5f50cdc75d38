/- The accounts that an order names rise, each once: the walk. -/
import Derived.Test.YtnphncemghfkbaaGreatQ04
import Derived.Test.YtnphncemghfkbaaGreatQ05
import Derived.Sort.Walk0
namespace Go.Proofs.YtnphncemghfkbaaGreat
open Go.RowKit Go.My Go.Maps Go.Sort Go.Lib
set_option linter.unusedSimpArgs false
set_option linter.unusedVariables false
attribute [local go_sem ↓] Go.wp_at_zero Go.wp_at_succ

theorem ts_at {w : World} {F : Nat → Prop} {A : Option Addr} {n : Nat} {L : List (List UInt8)} (h : Rd w F 1 A n (ts L)) (k : Nat) (hk : k < n) : ∃ ad, ∃ hl : k < L.length, A = some ad ∧ F ad.block ∧ w.cell? (ad.add k) = some (.string ⟨L[k].toArray⟩) := by
  obtain ⟨ad, rfl, hF, hc⟩ := h.2 (by omega)
  have hl : k < L.length := by have := h.1; rw [ts_length] at this; omega
  exact ⟨ad, hl, rfl, hF, hc k _ (ts_get L k hl)⟩
def hasT (L : List (List UInt8)) (s : List UInt8) : Bool := decide (s ∈ L)
def HsRel (w : World) (L : List (List UInt8)) (s : List UInt8) (iv : Value) (wr : World) : Prop := ∃ k : Nat, k ≤ L.length ∧ iv = .int .i64 k ∧ (∀ x ∈ L.take k, x ≠ s) ∧ wr = w
/-! ### what is known of the accounts that an order names -/
theorem touch_mem (o : Od) (s : List UInt8) : s ∈ touchL o ↔ s ∈ allN o o.legs.length ∧ s ≠ [] := by
  unfold touchL
  rw [(upOf_spec _).2 s]
  unfold namesO
  rw [List.mem_filter]
  cases s <;> simp
theorem touch_up (o : Od) : Up (touchL o) := (upOf_spec _).1
theorem touch_length (o : Od) : (touchL o).length ≤ 2 + o.legs.length := by
  refine Nat.le_trans (upOf_length _) ?_
  unfold namesO
  refine Nat.le_trans (List.length_filter_le _ _) ?_
  rw [allN_length _ _ (Nat.le_refl _)]
  exact Nat.le_refl _
theorem touch_step {L : List (List UInt8)} (h : Up L) (k : Nat) (hk : k < L.length) (h0 : 0 < k) : L[k - 1] < L[k] := List.pairwise_iff_getElem.1 h (k - 1) k (by omega) hk (by omega)
theorem nameB_nil : nameB [] = false := by rfl
theorem touch_none {o : Od} (h : rightO o = true) : ((touchL o).length = 0) ↔ o.kd = 6 := by
  have hm := touch_mem o
  have hx : (touchL o).length = 0 ↔ ∀ s, s ∈ allN o o.legs.length → s = [] := by
    rw [List.length_eq_zero_iff, List.eq_nil_iff_forall_not_mem]
    constructor
    · intro h s hs
      exact Decidable.byContradiction fun hn => h s ((hm s).2 ⟨hs, hn⟩)
    · intro h s hs
      have := (hm s).1 hs
      exact this.2 (h s this.1)
  rw [hx]
  clear hm hx
  obtain ⟨cl, sq, kd, acct, peer, sum, legs, per, hold, note⟩ := o
  unfold rightO acctB peerB sumB legsB perB holdB noteB at h
  simp only [Bool.and_eq_true, decide_eq_true_eq] at h
  obtain ⟨h1, h2, _, ha, hp, _, hl, _⟩ := h
  have hc : kd = 1 ∨ kd = 2 ∨ kd = 3 ∨ kd = 4 ∨ kd = 5 ∨ kd = 6 ∨ kd = 7 := by omega
  have hA : ∀ s, nameB s = true → s ≠ [] := fun s hs e => by rw [e, nameB_nil] at hs; cases hs
  have key : kd ≠ 6 → kd ≠ 2 → ¬ ∀ s, s ∈ allN ⟨cl, sq, kd, acct, peer, sum, legs, per, hold, note⟩ legs.length → s = [] := fun h6 h2 hall => by
    rw [if_neg (by omega)] at ha
    exact hA _ ha (hall _ (by unfold allN; simp))
  constructor
  · intro hall
    refine Decidable.byContradiction fun h6 => ?_
    simp only at h6
    by_cases hk2 : kd = 2
    · subst hk2
      simp only [if_true] at hl
      unfold rightB at hl
      simp only [Bool.and_eq_true, decide_eq_true_eq] at hl
      obtain ⟨⟨⟨l2, _⟩, hg⟩, _⟩ := hl
      match legs, l2, hg, hall with
      | g :: r, _, hg, hall =>
        rw [List.all_cons, Bool.and_eq_true, Bool.and_eq_true] at hg
        refine hA _ hg.1.1 (hall g.nm ?_)
        unfold allN
        simp
    · exact key h6 hk2 hall
  · intro h6 s hs
    simp only at h6
    subst h6
    simp at ha hp hl
    unfold allN at hs
    simp only [Od.an, Od.pn] at ha hp hs
    simp [hl] at hs
    rcases hs with rfl | rfl
    · simp [ha]
    · simp [hp]
theorem less_at {L : List (List UInt8)} (h : Up L) (k : Nat) (hk : k < L.length) (h0 : 0 < k) : Op.bytesLess L[k - 1] L[k] = true := by
  rw [bytesLess_eq]
  exact decide_eq_true (touch_step h k hk h0)
def LpRel (n : Nat) (w : World) (iv : Value) (wr : World) : Prop := ∃ k : Nat, k ≤ n ∧ iv = .int .i64 k ∧ Fr No w wr
def LqRel (n : Nat) (w : World) (iv : Value) (wr : World) : Prop := ∃ k : Nat, k ≤ n ∧ iv = .int .i64 k ∧ wr = w
theorem RetTrue.of {w w' : World} (h : Below w.heap.size w w') : RetTrue w (.returned (.bool true)) w' := ⟨rfl, h⟩
end Go.Proofs.YtnphncemghfkbaaGreat
