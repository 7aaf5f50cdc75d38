/- How accounts and legs that come in read. -/
import Derived.Test.YtjbeaoabhhaiiaaGreatVouMath
namespace Go.Proofs.YtjbeaoabhhaiiaaGreat
open Go.RowKit Go.My Go.Maps
set_option linter.unusedSimpArgs false
set_option linter.unusedVariables false

/-- an account that comes in -/
structure AcI where
  name : ByteArray
  hv : Int
  st : Int
  lim : Int
def AcI.ok (a : AcI) : Prop := a.name.size ≤ maxLen ∧ In64 a.hv ∧ In64 a.st ∧ In64 a.lim
def RdAc (cs : List Value) (a : AcI) : Prop := cs = [.string a.name, .int .i64 a.hv, .int .i64 a.st, .int .i64 a.lim] ∧ a.ok

section
open Go.ChangeShapes Go.WideShapes
variable {H : Type} {enc : TypeId × Value → H} {w : World} {base : Nat} {spare : Nat → Bool} {held : Bool}
set_option maxRecDepth 100000 in
theorem open_acct {n : Nat} {cs : List Value} {x : DataW H × List MemPlace} (h : DataW.trod enc Tryz.prog w base spare held n 80 cs = some x) : ∃ o, RdAc cs o := by
  obtain ⟨xs, m, _, _, hl, _, hf⟩ := DataW.trod_struct Tryz.underlying80 h
  have hC : Tryz.prog.cellsOf 80 = 4 := by kernel_rfl
  have CS : Tryz.prog.cellsOf 9 = 1 := by kernel_rfl
  have C2 : Tryz.prog.cellsOf 2 = 1 := by kernel_rfl
  rw [hC] at hl
  match cs, hl with
  | [v0, v1, v2, v3], _ =>
    have f0 : DataW.trod enc Tryz.prog w base spare held m 9 [v0] = xs[0]? := by have := hf 0 _ rfl; simpa [CS] using this
    have f1 : DataW.trod enc Tryz.prog w base spare held m 2 [v1] = xs[1]? := by have := hf 1 _ rfl; simpa [CS, C2] using this
    have f2 : DataW.trod enc Tryz.prog w base spare held m 2 [v2] = xs[2]? := by have := hf 2 _ rfl; simpa [CS, C2] using this
    have f3 : DataW.trod enc Tryz.prog w base spare held m 2 [v3] = xs[3]? := by have := hf 3 _ rfl; simpa [CS, C2] using this
    have g : ∀ i, i < xs.length → ∃ y, xs[i]? = some y := fun i hi => ⟨xs[i], List.getElem?_eq_getElem hi⟩
    have hxl : xs.length = 4 := by assumption
    obtain ⟨y0, e0⟩ := g 0 (by omega)
    obtain ⟨y1, e1⟩ := g 1 (by omega)
    obtain ⟨y2, e2⟩ := g 2 (by omega)
    obtain ⟨y3, e3⟩ := g 3 (by omega)
    rw [e0] at f0; rw [e1] at f1; rw [e2] at f2; rw [e3] at f3
    obtain ⟨s, hs, _, ws⟩ := DataW.trod_string Tryz.underlying9 f0
    obtain ⟨a, ha, _, wa⟩ := DataW.trod_int Tryz.underlying2 f1
    obtain ⟨b, hb, _, wb⟩ := DataW.trod_int Tryz.underlying2 f2
    obtain ⟨c, hc, _, wc⟩ := DataW.trod_int Tryz.underlying2 f3
    simp only [List.cons.injEq, and_true] at hs ha hb hc
    subst hs ha hb hc
    exact ⟨⟨s, a, b, c⟩, rfl, ws, bounds_i64 wa, bounds_i64 wb, bounds_i64 wc⟩
end

/-- an account that came in, in memory -/
theorem aci_at {w : World} {F : Nat → Prop} {A : Option Addr} {n : Nat} {cells : List Value} {T : List AcI} (h : Rd w F 4 A n cells) (hE : Each RdAc 4 cells T) (k : Nat) (hkn : k < n) (hk : k < T.length) :
    ∃ ad, A = some ad ∧ F ad.block ∧ T[k].ok ∧ w.cell? (ad.add (k * 4)) = some (.string T[k].name) ∧ w.cell? ⟨(ad.add (k * 4)).block, (ad.add (k * 4)).off + 1, none⟩ = some (.int .i64 T[k].hv) ∧
      w.cell? ⟨(ad.add (k * 4)).block, (ad.add (k * 4)).off + 2, none⟩ = some (.int .i64 T[k].st) ∧ w.cell? ⟨(ad.add (k * 4)).block, (ad.add (k * 4)).off + 3, none⟩ = some (.int .i64 T[k].lim) := by
  obtain ⟨ad, rfl, hF, hc⟩ := h.2 (by omega)
  obtain ⟨hcs, hok⟩ := each_nth hE k hk
  refine ⟨ad, rfl, hF, hok, hc (k * 4) _ (by have := nth_cells hcs 0 (by omega); rw [Nat.add_zero] at this; rw [this]; rfl), ?_, ?_, ?_⟩
  · rw [← add_lits ad (k * 4) 1 (by omega)]
    exact hc _ _ (by rw [nth_cells hcs 1 (by omega)]; rfl)
  · rw [← add_lits ad (k * 4) 2 (by omega)]
    exact hc _ _ (by rw [nth_cells hcs 2 (by omega)]; rfl)
  · rw [← add_lits ad (k * 4) 3 (by omega)]
    exact hc _ _ (by rw [nth_cells hcs 3 (by omega)]; rfl)
end Go.Proofs.YtjbeaoabhhaiiaaGreat
