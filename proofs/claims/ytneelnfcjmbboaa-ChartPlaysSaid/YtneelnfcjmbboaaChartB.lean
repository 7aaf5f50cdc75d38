/- ChartNil's walk. -/
import Derived.Test.YtneelnfcjmbboaaChartA
namespace Go.Proofs.Ytneelnfcjmbboaa
open Go.RowKit Go.My Go.Maps
set_option linter.unusedSimpArgs false
set_option linter.unusedVariables false
attribute [local go_sem ↓] Go.wp_at_zero Go.wp_at_succ

set_option maxRecDepth 100000 in
set_option maxHeartbeats 2000000 in
theorem chartNil_walk (v : Value) (o : OpC) (w : World) (rd : v = o.val ∧ o.ok) : Calls Try.prog 6 #[v] w (RetTrue w) := by
  obtain ⟨rfl, ho⟩ := rd
  have HD := Lib.hid fun W => does_nil o W ho
  obtain ⟨k, s, x⟩ := o
  unfold OpC.val at *
  simp only at *
  have HBX := Lib.hid (Blk.new w 34 #[.int .i64 k, .string s, .int .i64 x])
  clear ho
  go_enter Try.func6, Try.ntmps6
  go_wp2_with fail
  refine (livesH _).mono ?_
  rintro e w1 ⟨rfl, hb1⟩
  have hbx1 := HBX.out.below hb1 (by simp)
  have HB : Hid (∀ W, Fr No w1 W → RetTrue w (.returned (.bool true)) W) := fun W hW => ⟨rfl, by
    have h1 : Below w.heap.size w w1 := ((Below.refl _ _).alloc (Nat.le_refl _) _).trans (hb1.mono (by simp))
    exact below_fr_no h1 hW h1.size⟩
  have c0 := hbx1.cell 0
  have c1 := hbx1.cell 1
  have c2 := hbx1.cell 2
  simp only [List.getElem?_toArray, List.getElem?_cons_zero, List.getElem?_cons_succ] at c0 c1 c2
  clear hb1 hbx1
  go_wp2_with (first
    | (go_at_call 13; refine (total_nil_ _).mono ?_; rintro e w2 ⟨rfl, rfl⟩)
    | (go_at_call 11; refine (HD.out _).mono ?_; rintro e w3 ⟨rfl, hf3⟩)
    | (go_at_call 16; refine (all_nil _).mono ?_; rintro e w4 ⟨rfl, rfl⟩)
    | (go_at_call 20; refine (copy_nil _).mono ?_; rintro e w5 ⟨rfl, rfl⟩))
  go_ret
  exact HB.out _ hf3
end Go.Proofs.Ytneelnfcjmbboaa
