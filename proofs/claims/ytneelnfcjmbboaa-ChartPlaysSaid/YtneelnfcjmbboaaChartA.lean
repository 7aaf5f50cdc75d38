/- What the laws on charts share: steps. -/
import Derived.Test.YtneelnfcjmbboaaChart9
namespace Go.Proofs.Ytneelnfcjmbboaa
open Go.RowKit Go.My Go.Maps
set_option linter.unusedSimpArgs false
set_option linter.unusedVariables false
attribute [local go_sem ↓] Go.wp_at_zero Go.wp_at_succ

/-- a step of a script -/
structure OpC where
  kind : Int
  name : ByteArray
  x : Int
def OpC.ok (o : OpC) : Prop := In64 o.kind ∧ In64 o.x ∧ o.name.size ≤ maxLen
def OpC.val (o : OpC) : Value := .agg #[.int .i64 o.kind, .string o.name, .int .i64 o.x]
/-- the cells cs hold the step o -/
def RdC (cs : List Value) (o : OpC) : Prop := cs = [.int .i64 o.kind, .string o.name, .int .i64 o.x] ∧ o.ok

section
open Go.ChangeShapes Go.WideShapes
variable {H : Type} {enc : TypeId × Value → H} {w : World} {base : Nat} {spare : Nat → Bool} {held : Bool}
set_option maxRecDepth 100000 in
theorem open_op {n : Nat} {cs : List Value} {x : DataW H × List MemPlace} (h : DataW.trod enc Try.prog w base spare held n 34 cs = some x) : ∃ o, RdC cs o := by
  obtain ⟨xs, m, _, _, hl, _, hf⟩ := DataW.trod_struct Try.underlying34 h
  have hC : Try.prog.cellsOf 34 = 3 := by kernel_rfl
  have C3 : Try.prog.cellsOf 3 = 1 := by kernel_rfl
  have CS : Try.prog.cellsOf 9 = 1 := by kernel_rfl
  have C2 : Try.prog.cellsOf 2 = 1 := by kernel_rfl
  rw [hC] at hl
  match cs, hl with
  | [v0, v1, v2], _ =>
    have f0 : DataW.trod enc Try.prog w base spare held m 3 [v0] = xs[0]? := by have := hf 0 _ rfl; simpa [C3] using this
    have f1 : DataW.trod enc Try.prog w base spare held m 9 [v1] = xs[1]? := by have := hf 1 _ rfl; simpa [C3, CS] using this
    have f2 : DataW.trod enc Try.prog w base spare held m 2 [v2] = xs[2]? := by have := hf 2 _ rfl; simpa [C3, CS, C2] using this
    have g : ∀ i, i < xs.length → ∃ y, xs[i]? = some y := fun i hi => ⟨xs[i], List.getElem?_eq_getElem hi⟩
    have hxl : xs.length = 3 := by assumption
    obtain ⟨y0, e0⟩ := g 0 (by omega)
    obtain ⟨y1, e1⟩ := g 1 (by omega)
    obtain ⟨y2, e2⟩ := g 2 (by omega)
    rw [e0] at f0; rw [e1] at f1; rw [e2] at f2
    obtain ⟨k, hk, _, wk⟩ := DataW.trod_int Try.underlying3 f0
    obtain ⟨s, hs, _, ws⟩ := DataW.trod_string Try.underlying9 f1
    obtain ⟨z, hz, _, wz⟩ := DataW.trod_int Try.underlying2 f2
    simp only [List.cons.injEq, and_true] at hk hs hz
    subst hk hs hz
    exact ⟨⟨k, s, z⟩, rfl, bounds_i64 wk, bounds_i64 wz, ws⟩
theorem open_opv {r : Reach} {b0 : Nat} {v : Value} {d : DataW H} {p : List MemPlace} (hv : Value.okWide Try.prog w r b0 34 v)
    (h : DataW.Trod enc Try.prog w 0 (fun _ => true) true 34 v d p) : ∃ o : OpC, v = o.val ∧ o.ok := by
  obtain ⟨cs, rfl, hsz⟩ := okWide_struct Try.underlying34 hv
  obtain ⟨fuel, hf⟩ := h
  obtain ⟨o, ho, hk⟩ := open_op hf
  refine ⟨o, ?_, hk⟩
  obtain ⟨l⟩ := cs
  have ho' : l = [Value.int .i64 o.kind, .string o.name, .int .i64 o.x] := by simpa [Value.cells] using ho
  subst ho'
  rfl
end

/-- a step's kind -/
def kindC (k : Int) : Int := (k % 18446744073709551616) % 4
theorem kindC_bd (k : Int) : kindC k = 0 ∨ kindC k = 1 ∨ kindC k = 2 ∨ kindC k = 3 := by unfold kindC; omega

theorem kind_any (k : Int) (s : ByteArray) (x : Int) (w : World) (hk : In64 k) :
    Calls Try.prog 19 #[.agg #[.int .i64 k, .string s, .int .i64 x]] w fun e w' => e = .returned (.int .i64 (kindC k)) ∧ Fr No w w' := by
  have hk : Hid (wrap64 ((IntKind.u64.wrap k).tmod 4) = kindC k) := by
    show _ = _
    rw [IntKind.wrap_u64]
    unfold kindC
    have e2 : (k % 18446744073709551616).tmod 4 = (k % 18446744073709551616) % 4 := by
      rw [Int.tmod_eq_emod_of_nonneg (by omega)]
    rw [e2]
    exact IntWalk.wrap64_in _ ⟨by omega, by omega⟩
  go_enter Try.func19, Try.ntmps19
  go_wp2
  go_ret
  exact ⟨by rw [← hk.out]; rfl, (Fr.refl _ _).alloc _⟩

set_option maxRecDepth 100000 in
set_option maxHeartbeats 2000000 in
/-- a step, whatever it is done to -/
theorem does_gen (c : Value) (o : OpC) (w : World) (n : Int) (Q : World → Prop) (ho : o.ok) (hQ : ∀ W W', Q W → Fr No W W' → Q W')
    (h0 : kindC o.kind = 0 → ∀ W, Fr No w W → Calls Try.prog 24 #[c, .string o.name, .int .i64 o.x] W fun e w' => e = .returned (.int .i64 n) ∧ Q w')
    (h1 : kindC o.kind = 1 → ∀ W, Fr No w W → Calls Try.prog 21 #[c, .string o.name, .int .i64 o.x] W fun e w' => e = .returned (.int .i64 n) ∧ Q w')
    (h2 : kindC o.kind = 2 → ∀ W, Fr No w W → Calls Try.prog 23 #[c, .string o.name, .int .i64 o.x] W fun e w' => e = .returned (.int .i64 n) ∧ Q w')
    (h3 : kindC o.kind = 3 → ∀ W, Fr No w W → Calls Try.prog 22 #[c, .string o.name] W fun e w' => ∃ a : Ac, e = .returned (.tuple #[a.val, .int .i64 n]) ∧ Q w') :
    Calls Try.prog 11 #[c, o.val] w fun e w' => e = .returned (.int .i64 n) ∧ Q w' := by
  obtain ⟨k, s, x⟩ := o
  have HK := Lib.hid fun W => kind_any k s x W ho.1
  have HQ := Lib.hid hQ
  have H0 := Lib.hid h0
  have H1 := Lib.hid h1
  have H2 := Lib.hid h2
  have H3 := Lib.hid h3
  have hbd := kindC_bd k
  unfold OpC.val
  simp only at *
  clear h0 h1 h2 h3 hQ ho
  have hbx := Blk.new w 34 #[.int .i64 k, .string s, .int .i64 x]
  have hfx : Fr No w (w.alloc (.cells #[.int .i64 k, .string s, .int .i64 x] 34)) := (Fr.refl _ _).alloc _
  go_enter Try.func11, Try.ntmps11
  go_wp2_with fail
  refine (HK.out _).mono ?_
  rintro e w2 ⟨rfl, hf2⟩
  have hbx2 := hbx.fr hf2 (fun h => h)
  have HF := Lib.hid (hfx.trans hf2)
  have c0 := hbx2.cell 0
  have c1 := hbx2.cell 1
  have c2 := hbx2.cell 2
  simp only [List.getElem?_toArray, List.getElem?_cons_zero, List.getElem?_cons_succ] at c0 c1 c2
  clear hbx hfx hf2 hbx2
  rcases hbd with hk | hk | hk | hk
  · have HH := Lib.hid (H0.out hk _ HF.out)
    rw [hk]
    clear hk H0 H1 H2 H3 HF
    go_wp2_with (go_at_call 24; refine HH.out.mono ?_; rintro e w3 ⟨rfl, hq⟩)
    go_ret
    exact ⟨rfl, hq⟩
  · have HH := Lib.hid (H1.out hk _ HF.out)
    rw [hk]
    clear hk H0 H1 H2 H3 HF
    go_wp2_with (go_at_call 21; refine HH.out.mono ?_; rintro e w3 ⟨rfl, hq⟩)
    go_ret
    exact ⟨rfl, hq⟩
  · have HH := Lib.hid (H2.out hk _ HF.out)
    rw [hk]
    clear hk H0 H1 H2 H3 HF
    go_wp2_with (go_at_call 23; refine HH.out.mono ?_; rintro e w3 ⟨rfl, hq⟩)
    go_ret
    exact ⟨rfl, hq⟩
  · have HH : Hid (Calls Try.prog 22 #[c, .string s] w2 fun e w' => ∃ (nm : List UInt8) (hv st lim : Int), e = .returned (.tuple #[.agg #[.string ⟨nm.toArray⟩, .int .i64 hv, .int .i64 st, .int .i64 lim], .int .i64 n]) ∧ Q w') :=
      (H3.out hk _ HF.out).mono fun e w' h => by obtain ⟨a, h1, h2⟩ := h; exact ⟨a.name, a.hv, a.st, a.lim, h1, h2⟩
    rw [hk]
    clear hk H0 H1 H2 H3 HF
    go_wp2_with (go_at_call 22; refine HH.out.mono ?_; rintro e w3 ⟨nm, hv, st, lim, rfl, hq⟩)
    go_ret
    exact ⟨rfl, HQ.out _ _ hq ((Fr.refl _ _).alloc _)⟩

theorem does_nil (o : OpC) (w : World) (ho : o.ok) : Calls Try.prog 11 #[.pointer none, o.val] w fun e w' => e = .returned (.int .i64 1) ∧ Fr No w w' :=
  does_gen _ o w 1 (fun W => Fr No w W) ho (fun _ _ h h' => h.trans h')
    (fun _ W hW => (open_nil _ _ W).mono fun _ _ h => ⟨h.1, hW.trans h.2⟩)
    (fun _ W hW => (give_nil _ _ W).mono fun _ _ h => ⟨h.1, hW.trans h.2⟩)
    (fun _ W hW => (aside_nil _ _ W).mono fun _ _ h => ⟨h.1, hW.trans h.2⟩)
    (fun _ W hW => (get_nil _ W).mono fun _ _ h => ⟨noA, h.1, hW.trans h.2⟩)
end Go.Proofs.Ytneelnfcjmbboaa
