/- Contracts of package chart: Copy. -/
import Derived.Test.YtjbeaoabhhaiiaaGreatChartD
import Derived.Test.YtjbeaoabhhaiiaaGreatIterC
namespace Go.Proofs.YtjbeaoabhhaiiaaGreat
open Go.RowKit Go.My Go.Maps
set_option linter.unusedSimpArgs false
set_option linter.unusedVariables false
attribute [local go_sem ↓] Go.wp_at_zero Go.wp_at_succ

theorem clone_any (m : Nat) (S : List Ac) (w : World) (h : MpS w m S) :
    Calls Tryz.prog 86 #[.map (some m)] w fun e w' => e = .returned (.map (some w.heap.size)) ∧ MpS w' w.heap.size S ∧ Fr No w w' ∧ w.heap.size < w'.heap.size :=
  (Go.Proofs.AnyW.maps_Clone_owns Tryz.clone86 _ _ m _ _ w h.1).mono fun e w' h' => ⟨h'.1, ⟨h'.2.1, h.2⟩, Fr.of_below h'.2.2.2 _, World.ownsMap.lt h'.2.1⟩

/-- handed back: a chart of its own -/
def MadeS (w : World) (S : List Ac) (e : Ending) (w' : World) : Prop := ∃ p m, e = .returned (.pointer (some ⟨p, 0, none⟩)) ∧ ChS w' p m S ∧ Fr No w w' ∧ w.heap.size ≤ p ∧ w.heap.size ≤ m
set_option maxRecDepth 100000 in
theorem copy_any (p m : Nat) (S : List Ac) (w : World) (h : ChS w p m S) : Calls Tryz.prog 61 #[.pointer (some ⟨p, 0, none⟩)] w (MadeS w S) := by
  have c0 := h.1.cell 0
  simp only [List.getElem?_toArray, List.getElem?_cons_zero] at c0
  have HCL := Lib.hid (clone_any m S w h.2)
  clear h
  go_enter Tryz.func61, Tryz.ntmps61
  go_wp2_with fail
  refine HCL.out.mono ?_
  rintro e w1 ⟨rfl, hm, hf, hlt⟩
  have HM := Lib.hid hm
  have HF := Lib.hid hf
  clear hm hf
  go_wp2
  go_ret
  exact ⟨_, _, rfl, ⟨Blk.new w1 135 #[.map (some w.heap.size)], HM.out.fr ((Fr.refl No _).alloc _) (fun h => h)⟩, HF.out.alloc _, by omega, Nat.le_refl _⟩
end Go.Proofs.YtjbeaoabhhaiiaaGreat
