/- Ten cells of a block that are written anew. -/
import Derived.Test.YtnphncemghfkbaaGreatQ01
namespace Go.Proofs.YtnphncemghfkbaaGreat
open Go.RowKit Go.My Go.Maps
set_option linter.unusedSimpArgs false
set_option linter.unusedVariables false
/-- all cells of an order are written anew -/
theorem set10 {w : World} {g : Nat} {t : TypeId} {y0 y1 y2 y3 y4 y5 y6 y7 y8 y9 : Value} (h : Blk w g t #[y0, y1, y2, y3, y4, y5, y6, y7, y8, y9]) (z0 z1 z2 z3 z4 z5 z6 z7 z8 z9 : Value) :
    Blk ((((((((((w.setCell ⟨g, 0, none⟩ (z0)).setCell ⟨g, 1, none⟩ (z1)).setCell ⟨g, 2, none⟩ (z2)).setCell ⟨g, 3, none⟩ (z3)).setCell ⟨g, 4, none⟩ (z4)).setCell ⟨g, 5, none⟩ (z5)).setCell ⟨g, 6, none⟩ (z6)).setCell ⟨g, 7, none⟩ (z7)).setCell ⟨g, 8, none⟩ (z8)).setCell ⟨g, 9, none⟩ (z9)) g t #[z0, z1, z2, z3, z4, z5, z6, z7, z8, z9] ∧ Fr (At1 g) w ((((((((((w.setCell ⟨g, 0, none⟩ (z0)).setCell ⟨g, 1, none⟩ (z1)).setCell ⟨g, 2, none⟩ (z2)).setCell ⟨g, 3, none⟩ (z3)).setCell ⟨g, 4, none⟩ (z4)).setCell ⟨g, 5, none⟩ (z5)).setCell ⟨g, 6, none⟩ (z6)).setCell ⟨g, 7, none⟩ (z7)).setCell ⟨g, 8, none⟩ (z8)).setCell ⟨g, 9, none⟩ (z9)) := by
  have f0 : Fr (At1 g) w w := Fr.refl _ _
  have h1 := h.set_ 0 z0
  simp only [List.setIfInBounds_toArray, List.set_cons_zero, List.set_cons_succ] at h1
  have f1 := f0.trans (fr_set w g 0 z0)
  generalize w.setCell ⟨g, 0, none⟩ z0 = w1 at *
  clear f0 h
  have h2 := h1.set_ 1 z1
  simp only [List.setIfInBounds_toArray, List.set_cons_zero, List.set_cons_succ] at h2
  have f2 := f1.trans (fr_set w1 g 1 z1)
  generalize w1.setCell ⟨g, 1, none⟩ z1 = w2 at *
  clear f1 h1
  have h3 := h2.set_ 2 z2
  simp only [List.setIfInBounds_toArray, List.set_cons_zero, List.set_cons_succ] at h3
  have f3 := f2.trans (fr_set w2 g 2 z2)
  generalize w2.setCell ⟨g, 2, none⟩ z2 = w3 at *
  clear f2 h2
  have h4 := h3.set_ 3 z3
  simp only [List.setIfInBounds_toArray, List.set_cons_zero, List.set_cons_succ] at h4
  have f4 := f3.trans (fr_set w3 g 3 z3)
  generalize w3.setCell ⟨g, 3, none⟩ z3 = w4 at *
  clear f3 h3
  have h5 := h4.set_ 4 z4
  simp only [List.setIfInBounds_toArray, List.set_cons_zero, List.set_cons_succ] at h5
  have f5 := f4.trans (fr_set w4 g 4 z4)
  generalize w4.setCell ⟨g, 4, none⟩ z4 = w5 at *
  clear f4 h4
  have h6 := h5.set_ 5 z5
  simp only [List.setIfInBounds_toArray, List.set_cons_zero, List.set_cons_succ] at h6
  have f6 := f5.trans (fr_set w5 g 5 z5)
  generalize w5.setCell ⟨g, 5, none⟩ z5 = w6 at *
  clear f5 h5
  have h7 := h6.set_ 6 z6
  simp only [List.setIfInBounds_toArray, List.set_cons_zero, List.set_cons_succ] at h7
  have f7 := f6.trans (fr_set w6 g 6 z6)
  generalize w6.setCell ⟨g, 6, none⟩ z6 = w7 at *
  clear f6 h6
  have h8 := h7.set_ 7 z7
  simp only [List.setIfInBounds_toArray, List.set_cons_zero, List.set_cons_succ] at h8
  have f8 := f7.trans (fr_set w7 g 7 z7)
  generalize w7.setCell ⟨g, 7, none⟩ z7 = w8 at *
  clear f7 h7
  have h9 := h8.set_ 8 z8
  simp only [List.setIfInBounds_toArray, List.set_cons_zero, List.set_cons_succ] at h9
  have f9 := f8.trans (fr_set w8 g 8 z8)
  generalize w8.setCell ⟨g, 8, none⟩ z8 = w9 at *
  clear f8 h8
  have h10 := h9.set_ 9 z9
  simp only [List.setIfInBounds_toArray, List.set_cons_zero, List.set_cons_succ] at h10
  have f10 := f9.trans (fr_set w9 g 9 z9)
  generalize w9.setCell ⟨g, 9, none⟩ z9 = w10 at *
  clear f9 h9
  exact ⟨h10, f10⟩
end Go.Proofs.YtnphncemghfkbaaGreat
