/- What holds of a chart's accounts. -/
import Derived.Test.YtjbeaoabhhaiiaaGreatChart8
namespace Go.Proofs.YtjbeaoabhhaiiaaGreat
open Go.RowKit Go.My Go.Maps
set_option linter.unusedSimpArgs false
set_option linter.unusedVariables false

/-- what holds of a chart's accounts -/
structure Inv (S : List Ac) : Prop where
  ok : OkS S
  nm : NmS S
  len : S.length ≤ 12
  rise : Rise S

theorem mem_putA {a b : Ac} {S : List Ac} (h : b ∈ putA a S) : b = a ∨ b ∈ S := by
  unfold putA at h
  rcases (mem_insA a b _).1 h with h | h
  · exact .inl h
  · exact .inr (List.mem_filter.1 h).1
theorem Inv.put {S : List Ac} (h : Inv S) (a : Ac) (ho : OkA a) (hn : a.name.length ≤ 8) (hl : (getA S a.name).isSome ∨ S.length < 12) : Inv (putA a S) :=
  ⟨fun b hb => by
    rcases mem_putA hb with rfl | hb
    · exact ho
    · exact h.ok b hb, fun b hb => by
    rcases mem_putA hb with rfl | hb
    · exact hn
    · exact h.nm b hb, by
    rw [length_put a S h.rise]
    have := h.len
    split
    · exact this
    · rename_i hne
      rcases hl with hl | hl
      · exact absurd hl hne
      · omega, rise_put a S h.rise⟩
theorem Inv.nil : Inv [] := ⟨fun _ h => (nomatch h), fun _ h => (nomatch h), Nat.zero_le _, List.Pairwise.nil⟩

theorem inv_open {S : List Ac} (h : Inv S) (nm : List UInt8) (lim : Int) (hl : In64 lim) : Inv (openS S nm lim) := by
  unfold openS
  by_cases h0 : openE S nm lim = 0
  · rw [if_pos h0]
    unfold openE at h0
    split at h0
    · cases h0
    · rename_i h1
      split at h0
      · cases h0
      · split at h0
        · cases h0
        · rename_i h3
          have hlim : ¬ lim < 0 := fun h => h1 (.inr h)
          have hnb : nameB nm = true := by
            cases hb : nameB nm
            · exact absurd (.inl hb) h1
            · rfl
          unfold In64 at hl
          refine h.put ⟨nm, 0, 0, lim⟩ ⟨by unfold In64; simp, by simp only; omega, by simp only; omega⟩ ?_ (.inr (by omega))
          unfold nameB at hnb
          simp only [Bool.and_eq_true, decide_eq_true_eq] at hnb
          simp only
          omega
  · rw [if_neg h0]
    exact h
theorem inv_act {S : List Ac} (h : Inv S) (f : Ac → Int) (g : Ac → Ac) (nm : List UInt8) (hg : ∀ a, OkA a → f a = 0 → OkA (g a)) (hn : ∀ a, (g a).name = a.name) : Inv (actS f g S nm) := by
  unfold actS
  cases hq : getA S nm with
  | none => exact h
  | some a =>
    simp only
    obtain ⟨hm, hnm⟩ := getA_some hq
    by_cases h0 : f a = 0
    · rw [if_pos h0]
      refine h.put _ (hg a (h.ok a hm) h0) (by rw [hn]; exact h.nm a hm) (.inl ?_)
      rw [hn, hnm, hq]
      rfl
    · rw [if_neg h0]
      exact h
theorem ok_give (x : Int) (a : Ac) (h : OkA a) (h0 : giveE a x = 0) : OkA (giveA a x) := by
  unfold giveA
  rw [if_pos h0]
  unfold giveE at h0
  split at h0
  · rename_i hin
    exact ⟨hin, h.2⟩
  · cases h0
theorem ok_aside (x : Int) (a : Ac) (h : OkA a) (h0 : asideE a x = 0) : OkA (asideA a x) := by
  unfold asideA
  rw [if_pos h0]
  unfold asideE at h0
  split at h0
  · rename_i hin
    split at h0
    · cases h0
    · split at h0
      · cases h0
      · rename_i hneg
        unfold In64 at hin
        exact ⟨h.1, by simp only; omega, h.2.2⟩
  · cases h0
end Go.Proofs.YtjbeaoabhhaiiaaGreat
