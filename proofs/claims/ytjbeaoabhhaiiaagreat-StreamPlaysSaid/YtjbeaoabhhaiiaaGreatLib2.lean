/- More words for memory. Of no program. -/
import Derived.Test.YtjbeaoabhhaiiaaGreatLib
namespace Go.My
open Go.RowKit
set_option linter.unusedSimpArgs false
set_option linter.unusedVariables false

/-- Go's min of a length and a number, as the walk writes it -/
theorem imin (a k : Nat) : (if (k : Int) < (a : Int) then (k : Int) else (a : Int)) = ((min a k : Nat) : Int) := by
  split <;> omega

theorem Own.formPos {w : World} {e : TypeId} {size n : Nat} {v : Value} {xs : List Value} (h : Own w e size v n xs) (hn : 0 < n) : ∃ g c cur, v = .slice (some ⟨g, 0, none⟩) n c ∧ Blk w g e cur ∧ n ≤ c ∧ c ≤ maxLen ∧ c * size ≤ cur.size ∧ cur.toList.take (n * size) = xs := by
  rcases h.2 with ⟨_, h0⟩ | ⟨g, cap, cur, hv, hg, h1, h2, h3, h4⟩
  · omega
  · exact ⟨g, cap, cur, hv, hg, h1, h2, h3, h4⟩
/-- a store into a row of the call's own -/
theorem Own.store {w : World} {e : TypeId} {n g c : Nat} {xs : List Value} (h : Own w e 1 (.slice (some ⟨g, 0, none⟩) n c) n xs) (j : Nat) (hj : j < n) (u : Value) :
    Own (w.setCell ⟨g, j, none⟩ u) e 1 (.slice (some ⟨g, 0, none⟩) n c) n (xs.set j u) ∧ (∃ y, w.cell? ⟨g, j, none⟩ = some y) ∧ w.frozen? ⟨g, j, none⟩ = false := by
  have hl := h.1
  obtain ⟨g', c', cur, hv, hg, h1, h2, h3, h4⟩ := h.formPos (by omega)
  injection hv with hA _ hc
  injection hA with hA
  injection hA with hg'
  subst hg' hc
  have hcur : j < cur.size := by simp only [Nat.mul_one] at h3; omega
  refine ⟨⟨by simpa using hl, .inr ⟨g, c, cur.setIfInBounds j u, rfl, hg.set_ j u, h1, h2, by simpa using h3, ?_⟩⟩, ⟨cur[j], by rw [hg.cell]; simp [hcur]⟩, hg.frozen j⟩
  rw [← h4]
  simp only [Array.toList_setIfInBounds]
  rw [List.take_set]

/-- reads, in blocks below B or of type t -/
def RdT (B : Nat) (t : TypeId) (w : World) (A : Option Addr) (n : Nat) (xs : List Value) : Prop := ∃ F, Rd w F 1 A n xs ∧ ∀ k, F k → k < B ∨ ∃ cur, Blk w k t cur
theorem RdT.fr {B : Nat} {t : TypeId} {a b : World} {A : Option Addr} {n : Nat} {xs : List Value} {S : Nat → Prop} (h : RdT B t a A n xs) (hf : Fr S a b) (hS : ∀ k, S k → B ≤ k ∧ ∀ cur, ¬ Blk a k t cur) : RdT B t b A n xs := by
  obtain ⟨F, hr, hF⟩ := h
  have h1 := hr.lt (by omega)
  have hno : ∀ k, F k → ¬ S k := fun k hk hs => by
    rcases hF k hk with h | ⟨cur, hc⟩
    · have := (hS k hs).1; omega
    · exact (hS k hs).2 cur hc
  refine ⟨fun k => F k ∧ k < a.heap.size, h1.fr (by omega) hf (fun k hk _ => hno k hk.1), fun k hk => ?_⟩
  rcases hF k hk.1 with h | ⟨cur, hc⟩
  · exact .inl h
  · exact .inr ⟨cur, hc.fr hf (hno k hk.1)⟩
theorem RdT.of_own {B : Nat} {t : TypeId} {w : World} {A : Option Addr} {n c : Nat} {xs : List Value} (h : Own w t 1 (.slice A n c) n xs) : RdT B t w A n xs := ⟨_, h.rd, fun k hk => .inr (h.blk k hk)⟩
theorem RdT.of_lt {B : Nat} {t : TypeId} {w : World} {A : Option Addr} {n : Nat} {xs : List Value} (h : Rd w (fun k => k < B) 1 A n xs) : RdT B t w A n xs := ⟨_, h, fun k hk => .inl hk⟩


/-- an element's cell behind its first, as the walk writes its address -/
theorem add_lits (a : Addr) (i k : Nat) (hk : 0 < k) : a.add (i + k) = ⟨(a.add i).block, (a.add i).off + k, none⟩ := by
  rw [← add_of_add]
  unfold Addr.add
  rw [if_neg (by omega : ¬ k = 0)]
end Go.My
