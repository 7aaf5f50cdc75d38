/- What walks of this project hand back. Of no package. -/
import Derived.Test.YtjbeaoabhhaiiaaGreatChecked
import Derived.Test.YtjbeaoabhhaiiaaGreatLib
import Derived.Test.YtjbeaoabhhaiiaaGreatLib2
import Derived.Test.YtjbeaoabhhaiiaaGreatOpen
namespace Go.Proofs.YtjbeaoabhhaiiaaGreat
open Go.RowKit Go.My
set_option linter.unusedSimpArgs false
set_option linter.unusedVariables false

/-- the block of the value that is handed back is the old one, or a new one -/
def Newer (H : Nat) (g0 g : Option Nat) : Prop := g = g0 ∨ ∃ k, g = some k ∧ H ≤ k
theorem Newer.trans {H H' : Nat} {a b c : Option Nat} (h : Newer H a b) (k : Newer H' b c) (hH : H ≤ H') : Newer H a c := by
  rcases k with rfl | ⟨k, rfl, hk⟩
  · exact h
  · exact .inr ⟨k, rfl, by omega⟩
theorem Newer.of {H : Nat} {a b : Option Nat} (h : b = a ∨ b = some H) : Newer H a b := by
  rcases h with rfl | rfl
  · exact .inl rfl
  · exact .inr ⟨_, rfl, Nat.le_refl _⟩
theorem newer_none {H : Nat} {g : Option Nat} (h : Newer H none g) : ∀ k, g = some k → H ≤ k := by
  intro k hk
  rcases h with rfl | ⟨j, rfl, hj⟩
  · cases hk
  · injection hk with hk; omega

/-- handed back: a row of the call's own that holds xs -/
def RetOwn (w : World) (e : TypeId) (size : Nat) (g0 : Option Nat) (n : Nat) (xs : List Value) (en : Ending) (w' : World) : Prop :=
  ∃ v', en = .returned v' ∧ Own w' e size v' n xs ∧ Fr (AtO g0) w w' ∧ Newer w.heap.size g0 v'.ownBlock

theorem fr_newer {g0 g : Option Nat} {a b c : World} (h : Fr (AtO g0) a b) (hn : Newer a.heap.size g0 g) (k : Fr (AtO g) b c) : Fr (AtO g0) a c :=
  h.trans' k fun i hi hlt => by
    rcases hn with rfl | ⟨k, rfl, hk⟩
    · exact hi
    · simp only [AtO, Option.some.injEq] at hi
      omega
theorem fr_no {g : Option Nat} {a b c : World} (h : Fr No a b) (hn : Newer a.heap.size none g) (k : Fr (AtO g) b c) : Fr No a c :=
  h.trans' k fun i hi hlt => by
    rcases hn with rfl | ⟨k, rfl, hk⟩
    · simp [AtO] at hi
    · simp only [AtO, Option.some.injEq] at hi
      omega
/-- nothing that was there has changed -/
theorem fr_at_none {a b : World} (h : Fr (AtO none) a b) : Fr No a b := h.mono fun _ _ h => by simp [AtO] at h

/-- returns true, and has changed nothing that was there -/
def RetTrue (w : World) (e : Ending) (w' : World) : Prop := e = .returned (.bool true) ∧ Below w.heap.size w w'

theorem below_fr_no {B : Nat} {a b c : World} (h : Below B a b) (k : Fr No b c) (hB : B ≤ b.heap.size) : Below B a c := h.trans (k.belowNo.mono hB)
/-- what is changed lies at B or behind -/
theorem below_fr {B : Nat} {a b c : World} {S : Nat → Prop} (h : Below B a b) (k : Fr S b c) (hB : B ≤ b.heap.size) (hs : ∀ i, S i → B ≤ i) : Below B a c :=
  h.trans (k.below_at hB fun i hi hS => by have := hs i hS; omega)
end Go.Proofs.YtjbeaoabhhaiiaaGreat
