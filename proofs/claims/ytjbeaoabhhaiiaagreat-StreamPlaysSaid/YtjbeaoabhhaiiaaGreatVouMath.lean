/- Vouchers, in lists: legs that are posted one after another. Of no walk. -/
import Derived.Test.YtjbeaoabhhaiiaaGreatChartI1
import Derived.Test.YtjbeaoabhhaiiaaGreatLg
namespace Go.Proofs.YtjbeaoabhhaiiaaGreat
open Go.RowKit Go.My Go.Maps
set_option linter.unusedSimpArgs false
set_option linter.unusedVariables false

/-- one leg, and what is there then -/
def legE (S : List Ac) (g : Lg) : Int := if (getA S g.nm).isSome = false then 6 else if g.sum = -9223372036854775808 then 2 else actE (fun a => giveE a (-g.sum)) S g.nm
def legS (S : List Ac) (g : Lg) : List Ac := if legE S g = 0 then actS (fun a => giveE a (-g.sum)) (fun a => giveA a (-g.sum)) S g.nm else S
/-- legs, till one has an error -/
def legsE : List Ac → List Lg → Int
  | _, [] => 0
  | S, g :: r => if legE S g = 0 then legsE (legS S g) r else legE S g
def legsS : List Ac → List Lg → List Ac
  | S, [] => S
  | S, g :: r => if legE S g = 0 then legsS (legS S g) r else S
def checkE (S : List Ac) (L : List Lg) : Int := if rightB L = false then 1 else if total (sums L) = 0 then legsE S L else 8
def makeS (S : List Ac) (L : List Lg) : List Ac := if checkE S L = 0 then legsS S L else S

theorem inv_give {S : List Ac} (h : Inv S) (nm : List UInt8) (x : Int) : Inv (actS (fun a => giveE a x) (fun a => giveA a x) S nm) :=
  inv_act h _ _ _ (ok_give x) (fun a => giveA_name a x)
theorem inv_leg {S : List Ac} (h : Inv S) (g : Lg) : Inv (legS S g) := by
  unfold legS
  split
  · exact inv_give h _ _
  · exact h
theorem inv_legs {S : List Ac} (h : Inv S) (L : List Lg) : Inv (legsS S L) := by
  induction L generalizing S with
  | nil => exact h
  | cons g r ih =>
    unfold legsS
    split
    · exact ih (inv_leg h g)
    · exact h
theorem inv_make {S : List Ac} (h : Inv S) (L : List Lg) : Inv (makeS S L) := by
  unfold makeS
  split
  · exact inv_legs h L
  · exact h

/-- a leg that is posted: the account has so much more -/
theorem leg_some {S : List Ac} {g : Lg} (h : legE S g = 0) : ∃ a, getA S g.nm = some a ∧ In64 (a.hv + g.sum) ∧ g.sum ≠ -9223372036854775808 ∧ (0 < -g.sum → freeB a (-g.sum) = true) ∧ legS S g = putA { a with hv := a.hv + g.sum } S := by
  have h0 := h
  unfold legE at h
  cases hq : getA S g.nm with
  | none => rw [hq] at h; simp at h
  | some a =>
    rw [hq] at h
    simp only [Option.isSome_some, Bool.true_eq_false, if_false] at h
    split at h
    · cases h
    · rename_i hmin
      unfold actE at h
      rw [hq] at h
      simp only at h
      have hin : In64 (a.hv - -g.sum) := by
        unfold giveE at h
        split at h
        · assumption
        · cases h
      refine ⟨a, rfl, by rw [Int.sub_neg] at hin; exact hin, hmin, fun hpos => ?_, ?_⟩
      · unfold giveE at h
        rw [if_pos hin] at h
        cases hf : freeB a (-g.sum)
        · rw [if_pos ⟨hpos, hf⟩] at h; cases h
        · rfl
      · unfold legS actS
        rw [if_pos h0, hq]
        simp only
        rw [if_pos h]
        unfold giveA
        rw [if_pos h, Int.sub_neg]
/-- a leg leaves other accounts alone -/
theorem leg_other (S : List Ac) (g : Lg) (k : List UInt8) (hk : k ≠ g.nm) : getA (legS S g) k = getA S k := by
  by_cases h : legE S g = 0
  · obtain ⟨a, ha, _, _, _, he⟩ := leg_some h
    rw [he]
    exact getA_put_other S _ k (by simpa [(getA_some ha).2] using hk)
  · unfold legS
    rw [if_neg h]
theorem leg_same {S T : List Ac} (g : Lg) (h : getA S g.nm = getA T g.nm) : legE S g = legE T g := by
  unfold legE actE
  rw [h]
/-- each leg of another account finds what was there at the beginning -/
theorem legs_each (S : List Ac) : ∀ (L : List Lg) (T : List Ac), (L.map Lg.nm).Nodup → (∀ g ∈ L, getA T g.nm = getA S g.nm) → (legsE T L = 0 ↔ ∀ g ∈ L, legE S g = 0)
  | [], T, _, _ => by simp [legsE]
  | g :: r, T, hd, hs => by
    rw [List.map_cons, List.nodup_cons] at hd
    have h1 := leg_same g (hs g List.mem_cons_self)
    unfold legsE
    rw [h1]
    by_cases h0 : legE S g = 0
    · rw [if_pos h0, legs_each S r (legS T g) hd.2 (fun b hb => by
        rw [leg_other T g _ (fun e => hd.1 (List.mem_map.2 ⟨b, hb, e⟩))]
        exact hs b (List.mem_cons_of_mem _ hb))]
      constructor
      · intro h b hb
        rcases List.mem_cons.1 hb with rfl | hb
        · exact h0
        · exact h b hb
      · intro h b hb
        exact h b (List.mem_cons_of_mem _ hb)
    · rw [if_neg h0]
      constructor
      · intro h
        exact absurd h h0
      · intro h
        exact absurd (h g List.mem_cons_self) h0
/-- the first error is that of the first leg that has one, at the beginning's accounts -/
theorem legs_first (S : List Ac) : ∀ (L : List Lg) (T : List Ac), (L.map Lg.nm).Nodup → (∀ g ∈ L, getA T g.nm = getA S g.nm) → legsE T L = ((L.find? fun g => decide (legE S g ≠ 0)).map (legE S)).getD 0
  | [], T, _, _ => rfl
  | g :: r, T, hd, hs => by
    rw [List.map_cons, List.nodup_cons] at hd
    have h1 := leg_same g (hs g List.mem_cons_self)
    unfold legsE
    rw [h1, List.find?_cons]
    by_cases h0 : legE S g = 0
    · rw [if_pos h0]
      simp only [h0, ne_eq, not_true, decide_false]
      exact legs_first S r (legS T g) hd.2 (fun b hb => by
        rw [leg_other T g _ (fun e => hd.1 (List.mem_map.2 ⟨b, hb, e⟩))]
        exact hs b (List.mem_cons_of_mem _ hb))
    · rw [if_neg h0]
      simp [h0]
end Go.Proofs.YtjbeaoabhhaiiaaGreat
