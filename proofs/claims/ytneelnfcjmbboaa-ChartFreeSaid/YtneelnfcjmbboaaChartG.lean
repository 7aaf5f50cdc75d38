/- What ChartFree says of a chart's steps: in lists. -/
import Derived.Test.YtneelnfcjmbboaaChartE
namespace Go.Proofs.Ytneelnfcjmbboaa
open Go.RowKit Go.My Go.Maps
set_option linter.unusedSimpArgs false
set_option linter.unusedVariables false

/-- a step of sums below 2^40, and what i of them make at most -/
def Low (x : Int) : Prop := -1099511627776 < x ∧ x < 1099511627776
def LowS (i : Nat) (S : List Ac) : Prop := ∀ a ∈ S, (-(1099511627776 * (i : Int)) ≤ a.hv ∧ a.hv ≤ 1099511627776 * (i : Int)) ∧ a.st ≤ 1099511627776 * (i : Int) ∧ a.lim < 1099511627776
theorem LowS.nil (i : Nat) : LowS i [] := fun _ h => (nomatch h)
theorem LowS.succ {i : Nat} {S : List Ac} (h : LowS i S) : LowS (i + 1) S := fun a ha => by
  obtain ⟨⟨h1, h2⟩, h3, h4⟩ := h a ha
  exact ⟨⟨by omega, by omega⟩, by omega, h4⟩
theorem LowS.act {i : Nat} {S : List Ac} (h : LowS i S) (f : Ac → Int) (g : Ac → Ac) (nm : List UInt8)
    (hg : ∀ a ∈ S, f a = 0 → (-(1099511627776 * ((i + 1 : Nat) : Int)) ≤ (g a).hv ∧ (g a).hv ≤ 1099511627776 * ((i + 1 : Nat) : Int)) ∧ (g a).st ≤ 1099511627776 * ((i + 1 : Nat) : Int) ∧ (g a).lim < 1099511627776) : LowS (i + 1) (actS f g S nm) := by
  unfold actS
  cases hq : getA S nm with
  | none => exact h.succ
  | some a =>
    simp only
    by_cases h0 : f a = 0
    · rw [if_pos h0]
      intro b hb
      rcases mem_putA hb with rfl | hb
      · exact hg a (getA_some hq).1 h0
      · exact h.succ b hb
    · rw [if_neg h0]
      exact h.succ
theorem LowS.does {i : Nat} {S : List Ac} (h : LowS i S) (o : OpC) (ho : Low o.x) : LowS (i + 1) (doesS S o) := by
  unfold Low at ho
  unfold doesS
  split
  · unfold openS
    split
    · intro b hb
      rcases mem_putA hb with rfl | hb
      · simp only
        omega
      · exact h.succ b hb
    · exact h.succ
  · split
    · refine h.act _ _ _ fun a ha h0 => ?_
      obtain ⟨⟨h1, h2⟩, h3, h4⟩ := h a ha
      unfold giveA
      rw [if_pos h0]
      simp only
      omega
    · split
      · refine h.act _ _ _ fun a ha h0 => ?_
        obtain ⟨⟨h1, h2⟩, h3, h4⟩ := h a ha
        unfold asideA
        rw [if_pos h0]
        simp only
        omega
      · exact h.succ

/-- no account has less than it may, less what is set aside, where it gave or something more was set aside -/
theorem act_free {S : List Ac} {f : Ac → Int} {g : Ac → Ac} {nm : List UInt8} (hn : ∀ a, (g a).name = a.name) (hr : Rise S) {b : Ac} (hb : b ∈ actS f g S nm) (hbn : b.name = nm) (hch : actS f g S nm ≠ S) :
    ∃ a, getA S nm = some a ∧ a ∈ S ∧ f a = 0 ∧ b = g a ∧ g a ≠ a := by
  unfold actS at hb hch
  cases hq : getA S nm with
  | none => rw [hq] at hch; exact absurd rfl hch
  | some a =>
    rw [hq] at hb hch
    simp only at hb hch
    by_cases h0 : f a = 0
    · rw [if_pos h0] at hb hch
      have hga : (g a).name = nm := (hn a).trans (getA_some hq).2
      have e1 := getA_mem (rise_put (g a) S hr) hb
      have e2 := getA_put_same S (g a)
      rw [hbn] at e1
      rw [hga] at e2
      rw [e1] at e2
      injection e2 with e2
      refine ⟨a, rfl, (getA_some hq).1, h0, e2, fun he => hch ?_⟩
      rw [he]
      exact putA_self hr (by rw [(getA_some hq).2]; exact hq)
    · rw [if_neg h0] at hch
      exact absurd rfl hch
theorem free_at {S : List Ac} {o : OpC} (hr : Rise S) {b : Ac} (hb : b ∈ doesS S o) (hbn : b.name = o.name.data.toList) (hk : kindC o.kind = 1 ∧ 0 ≤ o.x ∨ kindC o.kind = 2 ∧ 0 < o.x) (hch : doesS S o ≠ S) :
    -b.lim ≤ b.hv - b.st := by
  unfold doesS at hb hch
  rcases hk with ⟨hk, hx⟩ | ⟨hk, hx⟩
  · rw [if_neg (by omega), if_pos hk] at hb hch
    obtain ⟨a, _, _, h0, rfl, hne⟩ := act_free (fun a => giveA_name a o.x) hr hb hbn hch
    unfold giveA at hne ⊢
    rw [if_pos h0] at hne ⊢
    simp only
    have hx0 : o.x ≠ 0 := fun h => hne (by rw [h]; simp)
    unfold giveE at h0
    split at h0
    · split at h0
      · cases h0
      · rename_i h1
        have h2 : freeB a o.x = true := by
          cases hf : freeB a o.x
          · exact absurd ⟨by omega, hf⟩ h1
          · rfl
        unfold freeB at h2
        simp only [decide_eq_true_eq] at h2
        omega
    · cases h0
  · rw [if_neg (by omega), if_neg (by omega), if_pos hk] at hb hch
    obtain ⟨a, _, _, h0, rfl, hne⟩ := act_free (fun a => asideA_name a o.x) hr hb hbn hch
    unfold asideA
    rw [if_pos h0]
    simp only
    unfold asideE at h0
    split at h0
    · split at h0
      · cases h0
      · rename_i h1
        have h2 : freeB a o.x = true := by
          cases hf : freeB a o.x
          · exact absurd ⟨hx, hf⟩ h1
          · rfl
        unfold freeB at h2
        simp only [decide_eq_true_eq] at h2
        omega
    · cases h0
/-- where there is an error nothing changes -/
theorem does_err {S : List Ac} {o : OpC} (h : doesE S o ≠ 0) : doesS S o = S := by
  unfold doesE at h
  unfold doesS
  by_cases h0 : kindC o.kind = 0
  · rw [if_pos h0] at h ⊢
    unfold openS
    rw [if_neg h]
  · rw [if_neg h0] at h ⊢
    by_cases h1 : kindC o.kind = 1
    · rw [if_pos h1] at h ⊢
      unfold actE at h
      unfold actS
      cases hq : getA S o.name.data.toList with
      | none => rfl
      | some a => rw [hq] at h; simp only at h ⊢; rw [if_neg h]
    · rw [if_neg h1] at h ⊢
      by_cases h2 : kindC o.kind = 2
      · rw [if_pos h2] at h ⊢
        unfold actE at h
        unfold actS
        cases hq : getA S o.name.data.toList with
        | none => rfl
        | some a => rw [hq] at h; simp only at h ⊢; rw [if_neg h]
      · rw [if_neg h2]
theorem rise_at {S : List Ac} (h : Rise S) (k : Nat) (hk : k + 1 < S.length) : S[k].name < S[k + 1].name := by
  have := List.pairwise_iff_getElem.1 h k (k + 1) (by omega) hk (by omega)
  exact before_lt _ _ this
end Go.Proofs.Ytneelnfcjmbboaa
