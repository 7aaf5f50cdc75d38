/- What is done with one account changes no other one: in lists. -/
import Derived.Test.YtneelnfcjmbboaaChartC
namespace Go.Proofs.Ytneelnfcjmbboaa
open Go.RowKit Go.My Go.Maps
set_option linter.unusedSimpArgs false
set_option linter.unusedVariables false

theorem getA_actS_other (f : Ac → Int) (g : Ac → Ac) (hn : ∀ a, (g a).name = a.name) (S : List Ac) (nm k : List UInt8) (hk : k ≠ nm) : getA (actS f g S nm) k = getA S k := by
  unfold actS
  cases hq : getA S nm with
  | none => rfl
  | some a =>
    simp only
    by_cases h0 : f a = 0
    · rw [if_pos h0]
      exact getA_put_other S _ k (by rw [hn, (getA_some hq).2]; exact hk)
    · rw [if_neg h0]
/-- a step changes the account of its name alone -/
theorem getA_does_other (S : List Ac) (o : OpC) (k : List UInt8) (hk : k ≠ o.name.data.toList) : getA (doesS S o) k = getA S k := by
  unfold doesS
  split
  · unfold openS
    split
    · exact getA_put_other S _ k hk
    · rfl
  · split
    · exact getA_actS_other _ _ (fun a => giveA_name a o.x) S _ k hk
    · split
      · exact getA_actS_other _ _ (fun a => asideA_name a o.x) S _ k hk
      · rfl

theorem act_same (f : Ac → Int) (g : Ac → Ac) (hn : ∀ a, (g a).name = a.name) (S T : List Ac) (nm : List UInt8) (h : getA S nm = getA T nm) :
    actE f S nm = actE f T nm ∧ getA (actS f g S nm) nm = getA (actS f g T nm) nm := by
  unfold actE actS
  rw [← h]
  cases hq : getA S nm with
  | none => exact ⟨rfl, by simp only; rw [← h]⟩
  | some a =>
    refine ⟨rfl, ?_⟩
    simp only
    have hnm : (g a).name = nm := (hn a).trans (getA_some hq).2
    by_cases h0 : f a = 0
    · rw [if_pos h0, if_pos h0]
      have h1 := getA_put_same S (g a)
      have h2 := getA_put_same T (g a)
      rw [hnm] at h1 h2
      rw [h1, h2]
    · rw [if_neg h0, if_neg h0, h]
/-- what an account answers is the same, whatever others there are, where there is room -/
theorem does_same (S T : List Ac) (o : OpC) (h : getA S o.name.data.toList = getA T o.name.data.toList) (h5 : doesE S o ≠ 5) (hT : T.length < 12 ∨ (getA T o.name.data.toList).isSome) :
    doesE T o = doesE S o ∧ getA (doesS T o) o.name.data.toList = getA (doesS S o) o.name.data.toList := by
  unfold doesE doesS
  unfold doesE at h5
  by_cases hk : kindC o.kind = 0
  · rw [if_pos hk] at h5
    rw [if_pos hk, if_pos hk, if_pos hk, if_pos hk]
    have he : openE T o.name.data.toList o.x = openE S o.name.data.toList o.x := by
      unfold openE at h5 ⊢
      rw [← h]
      split
      · rfl
      · rename_i h1
        rw [if_neg h1] at h5
        split
        · rfl
        · rename_i h2
          rw [if_neg h2] at h5
          have h3 : ¬ 12 ≤ S.length := fun h3 => h5 (by rw [if_pos h3])
          rw [if_neg h3, if_neg]
          rcases hT with hT | hT
          · omega
          · rw [← h] at hT
            exact absurd hT h2
    refine ⟨he, ?_⟩
    unfold openS
    rw [he]
    by_cases h0 : openE S o.name.data.toList o.x = 0
    · rw [if_pos h0, if_pos h0]
      exact (getA_put_same T ⟨o.name.data.toList, 0, 0, o.x⟩).trans (getA_put_same S ⟨o.name.data.toList, 0, 0, o.x⟩).symm
    · rw [if_neg h0, if_neg h0, h]
  · rw [if_neg hk, if_neg hk, if_neg hk, if_neg hk]
    by_cases hk1 : kindC o.kind = 1
    · rw [if_pos hk1, if_pos hk1, if_pos hk1, if_pos hk1]
      have h1 := act_same (fun a => giveE a o.x) (fun a => giveA a o.x) (fun a => giveA_name a o.x) T S _ h.symm
      exact h1
    · rw [if_neg hk1, if_neg hk1, if_neg hk1, if_neg hk1]
      by_cases hk2 : kindC o.kind = 2
      · rw [if_pos hk2, if_pos hk2, if_pos hk2, if_pos hk2]
        exact act_same (fun a => asideE a o.x) (fun a => asideA a o.x) (fun a => asideA_name a o.x) T S _ h.symm
      · rw [if_neg hk2, if_neg hk2, if_neg hk2, if_neg hk2, h]
        exact ⟨rfl, rfl⟩

/-- only accounts of one name -/
def OneS (nm : List UInt8) (T : List Ac) : Prop := ∀ a ∈ T, a.name = nm
theorem one_len {nm : List UInt8} {T : List Ac} (h : OneS nm T) (hr : Rise T) : T.length ≤ 1 := by
  match T, h, hr with
  | [], _, _ => simp
  | [_], _, _ => simp
  | a :: b :: r, h, hr =>
    have h1 := (List.pairwise_cons.1 hr).1 b List.mem_cons_self
    rw [show a.key = b.key by unfold Ac.key; rw [h a List.mem_cons_self, h b (List.mem_cons_of_mem _ List.mem_cons_self)], WideShapes.before_irrefl] at h1
    cases h1
theorem mem_actS {f : Ac → Int} {g : Ac → Ac} (hn : ∀ a, (g a).name = a.name) {S : List Ac} {nm : List UInt8} {b : Ac} (h : b ∈ actS f g S nm) : b.name = nm ∨ b ∈ S := by
  unfold actS at h
  cases hq : getA S nm with
  | none => rw [hq] at h; exact .inr h
  | some a =>
    rw [hq] at h
    simp only at h
    split at h
    · rcases mem_putA h with rfl | h
      · exact .inl ((hn a).trans (getA_some hq).2)
      · exact .inr h
    · exact .inr h
theorem mem_doesS {S : List Ac} {o : OpC} {b : Ac} (h : b ∈ doesS S o) : b.name = o.name.data.toList ∨ b ∈ S := by
  unfold doesS at h
  split at h
  · unfold openS at h
    split at h
    · rcases mem_putA h with rfl | h
      · exact .inl rfl
      · exact .inr h
    · exact .inr h
  · split at h
    · exact mem_actS (fun a => giveA_name a o.x) h
    · split at h
      · exact mem_actS (fun a => asideA_name a o.x) h
      · exact .inr h
theorem one_does {T : List Ac} {o : OpC} (h : OneS o.name.data.toList T) : OneS o.name.data.toList (doesS T o) := fun b hb => by
  rcases mem_doesS hb with h' | h'
  · exact h'
  · exact h b h'
/-- the inner loops of ChartApart -/
theorem apart_at {S : List Ac} {o : OpC} (hr : Rise S) (hr2 : Rise (doesS S o)) {a b : Ac} (ha : a ∈ S) (hb : b ∈ doesS S o) (hn : a.name = b.name) (hne : b.name ≠ o.name.data.toList) : a = b := by
  have h1 := getA_mem hr ha
  have h2 := getA_mem hr2 hb
  rw [getA_does_other S o _ hne, ← hn, h1] at h2
  injection h2
end Go.Proofs.Ytneelnfcjmbboaa
