/- Orders as they come in and lie in memory: their readers. -/
import Derived.Test.YtnphncemghfkbaaOrd6
import Derived.Test.YtnphncemghfkbaaOpen
namespace Go.Proofs.Ytnphncemghfkbaa
open Go.RowKit Go.My Go.Maps
set_option linter.unusedSimpArgs false
set_option linter.unusedVariables false
theorem LgS_zero (w : World) (F : Nat → Prop) (A : Option Addr) (c : Nat) (hc : c ≤ maxLen) : LgS w F (.slice A 0 c) [] := ⟨A, c, [], rfl, ⟨by simp, fun h => absurd h (by simp)⟩, ⟨rfl, fun i x hx => by simp at hx⟩, Nat.zero_le _, hc⟩
theorem LgS_nil (w : World) (F : Nat → Prop) : LgS w F (.slice none 0 0) [] := ⟨none, 0, [], rfl, Rd.none_, ⟨rfl, fun i x hx => by simp at hx⟩, Nat.le_refl _, by unfold maxLen; omega⟩
section
open Go.ChangeShapes Go.WideShapes
variable {H : Type} {enc : TypeId × Value → H} {w : World} {base : Nat} {spare : Nat → Bool} {held : Bool}
set_option maxRecDepth 100000 in
theorem open_id {n : Nat} {cs : List Value} {x : DataW H × List MemPlace} (h : DataW.trod enc Try.prog w base spare held n 27 cs = some x) : ∃ a b : Int, cs = [.int .i64 a, .int .i64 b] ∧ In64 a ∧ In64 b := by
  obtain ⟨xs, m, _, _, hl, _, hf⟩ := DataW.trod_struct Try.underlying27 h
  have hC : Try.prog.cellsOf 27 = 2 := by kernel_rfl
  have C3 : Try.prog.cellsOf 3 = 1 := by kernel_rfl
  rw [hC] at hl
  match cs, hl with
  | [v0, v1], _ =>
    have f0 : DataW.trod enc Try.prog w base spare held m 3 [v0] = xs[0]? := by have := hf 0 _ rfl; simpa [C3] using this
    have f1 : DataW.trod enc Try.prog w base spare held m 3 [v1] = xs[1]? := by have := hf 1 _ rfl; simpa [C3] using this
    have g : ∀ i, i < xs.length → ∃ y, xs[i]? = some y := fun i hi => ⟨xs[i], List.getElem?_eq_getElem hi⟩
    have hxl : xs.length = 2 := by assumption
    obtain ⟨y0, e0⟩ := g 0 (by omega)
    obtain ⟨y1, e1⟩ := g 1 (by omega)
    rw [e0] at f0; rw [e1] at f1
    obtain ⟨k0, hk0, _, wk0⟩ := DataW.trod_int Try.underlying3 f0
    obtain ⟨k1, hk1, _, wk1⟩ := DataW.trod_int Try.underlying3 f1
    simp only [List.cons.injEq, and_true] at hk0 hk1
    subst hk0 hk1
    exact ⟨k0, k1, rfl, bounds_i64 wk0, bounds_i64 wk1⟩
/-- legs that came in are right in kind -/
def OdI (w : World) (o : Od) (v : Value) : Prop := o.ok ∧ (∀ g ∈ o.legs, g.ok) ∧ LgS w (Lt w.heap.size) v o.legs
set_option maxRecDepth 100000 in
theorem open_od {n : Nat} {cs : List Value} {x : DataW H × List MemPlace} (h : DataW.trod enc Try.prog w base spare held n 30 cs = some x) : ∃ (o : Od) (v : Value), cs = o.cs v ∧ OdI w o v := by
  obtain ⟨xs, m, _, _, hl, _, hf⟩ := DataW.trod_struct Try.underlying30 h
  have hC : Try.prog.cellsOf 30 = 10 := by kernel_rfl
  have C0 : Try.prog.cellsOf 27 = 2 := by kernel_rfl
  have C1 : Try.prog.cellsOf 9 = 1 := by kernel_rfl
  have C2 : Try.prog.cellsOf 2 = 1 := by kernel_rfl
  have C3 : Try.prog.cellsOf 3 = 1 := by kernel_rfl
  have C4 : Try.prog.cellsOf 28 = 1 := by kernel_rfl
  rw [hC] at hl
  match cs, hl with
  | [v0, v1, v2, v3, v4, v5, v6, v7, v8, v9], _ =>
    have f0 : DataW.trod enc Try.prog w base spare held m 27 [v0, v1] = xs[0]? := by have := hf 0 _ rfl; simpa [C0, C1, C2, C3, C4] using this
    have f1 : DataW.trod enc Try.prog w base spare held m 3 [v2] = xs[1]? := by have := hf 1 _ rfl; simpa [C0, C1, C2, C3, C4] using this
    have f2 : DataW.trod enc Try.prog w base spare held m 9 [v3] = xs[2]? := by have := hf 2 _ rfl; simpa [C0, C1, C2, C3, C4] using this
    have f3 : DataW.trod enc Try.prog w base spare held m 9 [v4] = xs[3]? := by have := hf 3 _ rfl; simpa [C0, C1, C2, C3, C4] using this
    have f4 : DataW.trod enc Try.prog w base spare held m 2 [v5] = xs[4]? := by have := hf 4 _ rfl; simpa [C0, C1, C2, C3, C4] using this
    have f5 : DataW.trod enc Try.prog w base spare held m 28 [v6] = xs[5]? := by have := hf 5 _ rfl; simpa [C0, C1, C2, C3, C4] using this
    have f6 : DataW.trod enc Try.prog w base spare held m 3 [v7] = xs[6]? := by have := hf 6 _ rfl; simpa [C0, C1, C2, C3, C4] using this
    have f7 : DataW.trod enc Try.prog w base spare held m 3 [v8] = xs[7]? := by have := hf 7 _ rfl; simpa [C0, C1, C2, C3, C4] using this
    have f8 : DataW.trod enc Try.prog w base spare held m 9 [v9] = xs[8]? := by have := hf 8 _ rfl; simpa [C0, C1, C2, C3, C4] using this
    have g : ∀ i, i < xs.length → ∃ y, xs[i]? = some y := fun i hi => ⟨xs[i], List.getElem?_eq_getElem hi⟩
    have hxl : xs.length = 9 := by assumption
    obtain ⟨y0, e0⟩ := g 0 (by omega)
    obtain ⟨y1, e1⟩ := g 1 (by omega)
    obtain ⟨y2, e2⟩ := g 2 (by omega)
    obtain ⟨y3, e3⟩ := g 3 (by omega)
    obtain ⟨y4, e4⟩ := g 4 (by omega)
    obtain ⟨y5, e5⟩ := g 5 (by omega)
    obtain ⟨y6, e6⟩ := g 6 (by omega)
    obtain ⟨y7, e7⟩ := g 7 (by omega)
    obtain ⟨y8, e8⟩ := g 8 (by omega)
    rw [e0] at f0; rw [e1] at f1; rw [e2] at f2; rw [e3] at f3; rw [e4] at f4; rw [e5] at f5; rw [e6] at f6; rw [e7] at f7; rw [e8] at f8
    obtain ⟨a, b, h01, ha, hb⟩ := open_id f0
    obtain ⟨k2, h2, _, w2⟩ := DataW.trod_int Try.underlying3 f1
    obtain ⟨s3, h3, _, w3⟩ := DataW.trod_string Try.underlying9 f2
    obtain ⟨s4, h4, _, w4⟩ := DataW.trod_string Try.underlying9 f3
    obtain ⟨k5, h5, _, w5⟩ := DataW.trod_int Try.underlying2 f4
    obtain ⟨A, c, cells, L, h6, hrd, hlc, hcm, hE⟩ := open_each RdLg Try.underlying28 (size := 2) (by kernel_rfl) (by omega) (fun n cs x hx => open_leg hx) f5
    obtain ⟨k7, h7, _, w7⟩ := DataW.trod_int Try.underlying3 f6
    obtain ⟨k8, h8, _, w8⟩ := DataW.trod_int Try.underlying3 f7
    obtain ⟨s9, h9, _, w9⟩ := DataW.trod_string Try.underlying9 f8
    simp only [List.cons.injEq, and_true] at h01 h2 h3 h4 h5 h6 h7 h8 h9
    obtain ⟨h0, h1⟩ := h01
    subst h0 h1 h2 h3 h4 h5 h6 h7 h8 h9
    refine ⟨⟨a, b, k2, s3, s4, k5, L, k7, k8, s9⟩, .slice A L.length c, rfl, ⟨ha, hb, bounds_i64 w2, w3, w4, bounds_i64 w5, bounds_i64 w7, bounds_i64 w8, w9⟩, ?_, A, c, cells, rfl, hrd, hE, hlc, hcm⟩
    intro g hg
    obtain ⟨i, hi, rfl⟩ := List.getElem_of_mem hg
    exact (hE.2 i _ (List.getElem?_eq_getElem hi)).2
set_option maxRecDepth 100000 in
theorem open_odv {r : Reach} {b0 : Nat} {v : Value} {d : DataW H} {p : List MemPlace} (hv : Value.okWide Try.prog w r b0 30 v)
    (h : DataW.Trod enc Try.prog w 0 (fun _ => true) true 30 v d p) : ∃ (o : Od) (u : Value), v = o.val u ∧ OdI w o u := by
  obtain ⟨cs, rfl, hsz⟩ := okWide_struct Try.underlying30 hv
  obtain ⟨fuel, hf⟩ := h
  obtain ⟨o, u, ho, hk⟩ := open_od hf
  refine ⟨o, u, ?_, hk⟩
  obtain ⟨l⟩ := cs
  have ho' : l = o.cs u := by simpa [Value.cells] using ho
  subst ho'
  rfl
end
def Od.few (o : Od) : Od := { o with legs := o.legs.take 10 }
theorem Od.few_ok {o : Od} (h : o.ok) : o.few.ok := h
theorem LgS.take {w : World} {F : Nat → Prop} {A : Option Addr} {L : List Lg} {n c : Nat} (h : LgS w F (.slice A n c) L) (k : Nat) : LgS w F (.slice A (min n k) c) (L.take k) := by
  obtain ⟨A', c', cells, e, hr, hE, h1, h2⟩ := h
  cases e
  refine ⟨A, c, cells.take (min L.length k * 2), by rw [List.length_take, Nat.min_comm], ?_, ?_, by rw [List.length_take]; omega, h2⟩
  · have := hr.take (k := min L.length k) (by omega)
    rw [List.length_take, Nat.min_comm k]
    exact this
  · refine ⟨by rw [List.length_take, List.length_take, hE.1]; omega, fun i x hx => ?_⟩
    have hi : i < (L.take k).length := (List.getElem?_eq_some_iff.1 hx).1
    rw [List.length_take] at hi
    have hx' : L[i]? = some x := by rw [List.getElem?_take] at hx; split at hx <;> simp_all
    have := hE.2 i x hx'
    rw [List.drop_take, List.take_take, Nat.min_eq_left (by omega)]
    exact this
theorem LgS.form {w : World} {F : Nat → Prop} {v : Value} {L : List Lg} (h : LgS w F v L) : ∃ A c, v = .slice A L.length c ∧ L.length ≤ c ∧ c ≤ maxLen := by
  obtain ⟨A, c, cells, e, hr, hE, h1, h2⟩ := h
  exact ⟨A, c, e, h1, h2⟩
theorem LgS.below {w w' : World} {v : Value} {L : List Lg} {B : Nat} (h : LgS w (Lt B) v L) (hb : Below B w w') : LgS w' (Lt B) v L := by
  obtain ⟨A, c, cells, e, hr, hE, h1, h2⟩ := h
  exact ⟨A, c, cells, e, hr.below hb (fun _ h => h), hE, h1, h2⟩
end Go.Proofs.Ytnphncemghfkbaa
