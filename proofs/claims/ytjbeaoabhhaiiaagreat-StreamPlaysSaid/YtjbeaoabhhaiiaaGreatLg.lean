/- Legs, as they come in and lie in memory. -/
import Derived.Test.YtjbeaoabhhaiiaaGreatChart
import Derived.Test.YtjbeaoabhhaiiaaGreatOpen
namespace Go.Proofs.YtjbeaoabhhaiiaaGreat
open Go.RowKit Go.My Go.Maps
set_option linter.unusedSimpArgs false
set_option linter.unusedVariables false

/-- a leg -/
structure Lg where
  acct : ByteArray
  sum : Int
def Lg.nm (g : Lg) : List UInt8 := g.acct.data.toList
def Lg.ok (g : Lg) : Prop := g.acct.size ≤ maxLen ∧ In64 g.sum
def sums (L : List Lg) : List Int := L.map Lg.sum

/-- may legs be? -/
def rightB (L : List Lg) : Bool := decide (2 ≤ L.length) && decide (L.length ≤ 6) && L.all (fun g => nameB g.nm && decide (g.sum ≠ 0)) && decide ((L.map Lg.nm).Nodup)
def okLg (g : Lg) : Bool := nameB g.nm && decide (g.sum ≠ 0)
theorem rightB_bad {L : List Lg} {k : Nat} (hk : k < L.length) (h : okLg L[k] = false) : rightB L = false := by
  unfold rightB
  have : L.all (fun g => nameB g.nm && decide (g.sum ≠ 0)) = false := by
    rw [List.all_eq_false]
    exact ⟨L[k], List.getElem_mem hk, by show ¬ okLg L[k] = true; rw [h]; decide⟩
  rw [this]
  simp
theorem rightB_len {L : List Lg} (h : ¬ (2 ≤ L.length ∧ L.length ≤ 6)) : rightB L = false := by
  unfold rightB
  by_cases h2 : 2 ≤ L.length
  · have : ¬ L.length ≤ 6 := fun h6 => h ⟨h2, h6⟩
    simp [this]
  · simp [h2]
def RdLg (cs : List Value) (g : Lg) : Prop := cs = [.string g.acct, .int .i64 g.sum] ∧ g.ok
/-- legs that lie below B -/
def RdLL (w : World) (B : Nat) (cs : List Value) (L : List Lg) : Prop := ∃ A c cells, cs = [.slice A L.length c] ∧ Rd w (Lt B) 2 A L.length cells ∧ Each RdLg 2 cells L ∧ L.length ≤ c ∧ c ≤ maxLen

section
open Go.ChangeShapes Go.WideShapes
variable {H : Type} {enc : TypeId × Value → H} {w : World} {base : Nat} {spare : Nat → Bool} {held : Bool}
set_option maxRecDepth 100000 in
theorem open_leg {n : Nat} {cs : List Value} {x : DataW H × List MemPlace} (h : DataW.trod enc Tryz.prog w base spare held n 116 cs = some x) : ∃ o, RdLg cs o := by
  obtain ⟨xs, m, _, _, hl, _, hf⟩ := DataW.trod_struct Tryz.underlying116 h
  have hC : Tryz.prog.cellsOf 116 = 2 := by kernel_rfl
  have CS : Tryz.prog.cellsOf 9 = 1 := by kernel_rfl
  have C2 : Tryz.prog.cellsOf 2 = 1 := by kernel_rfl
  rw [hC] at hl
  match cs, hl with
  | [v0, v1], _ =>
    have f0 : DataW.trod enc Tryz.prog w base spare held m 9 [v0] = xs[0]? := by have := hf 0 _ rfl; simpa [CS] using this
    have f1 : DataW.trod enc Tryz.prog w base spare held m 2 [v1] = xs[1]? := by have := hf 1 _ rfl; simpa [CS, C2] using this
    have g : ∀ i, i < xs.length → ∃ y, xs[i]? = some y := fun i hi => ⟨xs[i], List.getElem?_eq_getElem hi⟩
    have hxl : xs.length = 2 := by assumption
    obtain ⟨y0, e0⟩ := g 0 (by omega)
    obtain ⟨y1, e1⟩ := g 1 (by omega)
    rw [e0] at f0; rw [e1] at f1
    obtain ⟨s, hs, _, ws⟩ := DataW.trod_string Tryz.underlying9 f0
    obtain ⟨a, ha, _, wa⟩ := DataW.trod_int Tryz.underlying2 f1
    simp only [List.cons.injEq, and_true] at hs ha
    subst hs ha
    exact ⟨⟨s, a⟩, rfl, ws, bounds_i64 wa⟩
end

theorem each_nth {X : Type} {R : List Value → X → Prop} {size : Nat} {cells : List Value} {T : List X} (hE : Each R size cells T) (k : Nat) (hk : k < T.length) : R ((cells.drop (k * size)).take size) T[k] := hE.2 k T[k] (List.getElem?_eq_getElem hk)
theorem nth_cells {cells : List Value} {size k : Nat} {cs : List Value} (h : (cells.drop (k * size)).take size = cs) (j : Nat) (hj : j < size) : cells[k * size + j]? = cs[j]? := by
  rw [← h, List.getElem?_take, if_pos hj, List.getElem?_drop]

/-- a leg in memory -/
theorem lg_at {w : World} {F : Nat → Prop} {A : Option Addr} {n : Nat} {cells : List Value} {T : List Lg} (h : Rd w F 2 A n cells) (hE : Each RdLg 2 cells T) (k : Nat) (hkn : k < n) (hk : k < T.length) :
    ∃ ad, A = some ad ∧ F ad.block ∧ T[k].ok ∧ w.cell? (ad.add (k * 2)) = some (.string T[k].acct) ∧ w.cell? ⟨(ad.add (k * 2)).block, (ad.add (k * 2)).off + 1, none⟩ = some (.int .i64 T[k].sum) := by
  obtain ⟨ad, rfl, hF, hc⟩ := h.2 (by omega)
  obtain ⟨hcs, hok⟩ := each_nth hE k hk
  refine ⟨ad, rfl, hF, hok, hc (k * 2) _ (by have := nth_cells hcs 0 (by omega); rw [Nat.add_zero] at this; rw [this]; rfl), ?_⟩
  rw [← add_lits ad (k * 2) 1 (by omega)]
  exact hc _ _ (by rw [nth_cells hcs 1 (by omega)]; rfl)
end Go.Proofs.YtjbeaoabhhaiiaaGreat
