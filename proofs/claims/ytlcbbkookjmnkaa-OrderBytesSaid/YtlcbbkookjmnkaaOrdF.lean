/- The reader of a reply that is an argument. -/
import Derived.Test.YtlcbbkookjmnkaaOrdE
import Derived.Test.YtlcbbkookjmnkaaOpen
namespace Go.Proofs.Ytlcbbkookjmnkaa
open Go.RowKit Go.My Go.Maps
set_option linter.unusedSimpArgs false
set_option linter.unusedVariables false
section
open Go.ChangeShapes Go.WideShapes
variable {H : Type} {enc : TypeId × Value → H} {w : World} {base : Nat} {spare : Nat → Bool} {held : Bool}
set_option maxRecDepth 100000 in
theorem open_rp {n : Nat} {cs : List Value} {x : DataW H × List MemPlace} (h : DataW.trod enc Try.prog w base spare held n 29 cs = some x) : ∃ r : Rp, cs = [.int .i64 r.err, .int .i64 r.hv, .int .i64 r.st, .int .i64 r.num] ∧ r.ok := by
  obtain ⟨xs, m, _, _, hl, _, hf⟩ := DataW.trod_struct Try.underlying29 h
  have hC : Try.prog.cellsOf 29 = 4 := by kernel_rfl
  have C0 : Try.prog.cellsOf 27 = 1 := by kernel_rfl
  have C2 : Try.prog.cellsOf 2 = 1 := by kernel_rfl
  have C3 : Try.prog.cellsOf 3 = 1 := by kernel_rfl
  rw [hC] at hl
  match cs, hl with
  | [v0, v1, v2, v3], _ =>
    have f0 : DataW.trod enc Try.prog w base spare held m 27 [v0] = xs[0]? := by have := hf 0 _ rfl; simpa [C0, C2, C3] using this
    have f1 : DataW.trod enc Try.prog w base spare held m 2 [v1] = xs[1]? := by have := hf 1 _ rfl; simpa [C0, C2, C3] using this
    have f2 : DataW.trod enc Try.prog w base spare held m 2 [v2] = xs[2]? := by have := hf 2 _ rfl; simpa [C0, C2, C3] using this
    have f3 : DataW.trod enc Try.prog w base spare held m 3 [v3] = xs[3]? := by have := hf 3 _ rfl; simpa [C0, C2, C3] using this
    have g : ∀ i, i < xs.length → ∃ y, xs[i]? = some y := fun i hi => ⟨xs[i], List.getElem?_eq_getElem hi⟩
    have hxl : xs.length = 4 := by assumption
    obtain ⟨y0, e0⟩ := g 0 (by omega)
    obtain ⟨y1, e1⟩ := g 1 (by omega)
    obtain ⟨y2, e2⟩ := g 2 (by omega)
    obtain ⟨y3, e3⟩ := g 3 (by omega)
    rw [e0] at f0; rw [e1] at f1; rw [e2] at f2; rw [e3] at f3
    obtain ⟨k0, hk0, _, wk0⟩ := DataW.trod_int Try.underlying27 f0
    obtain ⟨k1, hk1, _, wk1⟩ := DataW.trod_int Try.underlying2 f1
    obtain ⟨k2, hk2, _, wk2⟩ := DataW.trod_int Try.underlying2 f2
    obtain ⟨k3, hk3, _, wk3⟩ := DataW.trod_int Try.underlying3 f3
    simp only [List.cons.injEq, and_true] at hk0 hk1 hk2 hk3
    subst hk0 hk1 hk2 hk3
    exact ⟨⟨k0, k1, k2, k3⟩, rfl, bounds_i64 wk0, bounds_i64 wk1, bounds_i64 wk2, bounds_i64 wk3⟩
set_option maxRecDepth 100000 in
theorem open_rpv {r : Reach} {b0 : Nat} {v : Value} {d : DataW H} {p : List MemPlace} (hv : Value.okWide Try.prog w r b0 29 v)
    (h : DataW.Trod enc Try.prog w 0 (fun _ => true) true 29 v d p) : ∃ o : Rp, v = o.val ∧ o.ok := by
  obtain ⟨cs, rfl, hsz⟩ := okWide_struct Try.underlying29 hv
  obtain ⟨fuel, hf⟩ := h
  obtain ⟨o, ho, hk⟩ := open_rp hf
  refine ⟨o, ?_, hk⟩
  obtain ⟨l⟩ := cs
  have ho' : l = [Value.int .i64 o.err, .int .i64 o.hv, .int .i64 o.st, .int .i64 o.num] := by simpa [Value.cells] using ho
  subst ho'
  rfl
end
end Go.Proofs.Ytlcbbkookjmnkaa
