/- Arguments: graphs, and rows of marks. -/
import Derived.Test.YtcjofakhefpfdaaOpen
import Derived.Test.YtcjofakhefpfdaaKnG
namespace Go.Proofs.Ytcjofakhefpfdaa
open Go.ChangeShapes Go.WideShapes Go.ChangeAt Go.RowKit Go.My
set_option linter.unusedVariables false
set_option linter.unusedSimpArgs false
section
variable {H : Type} {enc : TypeId × Value → H} {w : World} {base : Nat} {spare : Nat → Bool} {held : Bool}
/-- a row of numbers, as a graph holds it -/
def RowI (w : World) (cs : List Value) (L : List Int) : Prop := ∃ (A : Option Addr) (c : Nat), cs = [.slice A L.length c] ∧ Rd w (Lt w.heap.size) 1 A L.length (is_ L) ∧ L.length ≤ c ∧ c ≤ maxLen
theorem open_ii {fuel : Nat} {cs : List Value} {x : DataW H × List MemPlace} (h : DataW.trod enc Try.prog w base spare held fuel 22 cs = some x) :
    ∃ (A : Option Addr) (c : Nat) (G : List (List Int)), cs = [.slice A G.length c] ∧ RdG w (Lt w.heap.size) A G ∧ G.length ≤ c ∧ c ≤ maxLen := by
  obtain ⟨A, c, cells, G, hcs, hrd, hl, hm, hlen, hE⟩ := open_each (RowI w) Try.underlying22 (size := 1) (by kernel_rfl) (by omega) (fun n cs x hx => by
    obtain ⟨A', c', L, e1, e2, e3, e4, _⟩ := open_i64s Try.underlying26 Try.underlying3 (by kernel_rfl) hx
    exact ⟨L, A', c', e1, e2, e3, e4⟩) h
  refine ⟨A, c, G, hcs, ⟨cells, hrd, fun i L hL => ?_⟩, hl, hm⟩
  obtain ⟨A', c', e1, e2, e3, e4⟩ := hE i L hL
  refine ⟨A', c', ?_, e2, e3, e4⟩
  have hi : i < cells.length := by have := (List.getElem?_eq_some_iff.1 hL).1; omega
  rw [Nat.mul_one, List.drop_eq_getElem_cons hi, List.take_succ_cons, List.take_zero] at e1
  injection e1 with e1
  rw [List.getElem?_eq_getElem hi, e1]
theorem open_bo {fuel : Nat} {cs : List Value} {x : DataW H × List MemPlace} (h : DataW.trod enc Try.prog w base spare held fuel 30 cs = some x) :
    ∃ (A : Option Addr) (c : Nat) (l : List Bool), cs = [.slice A l.length c] ∧ Rd w (Lt w.heap.size) 1 A l.length (l.map Value.bool) ∧ l.length ≤ c ∧ c ≤ maxLen := by
  obtain ⟨A, c, cells, l, hcs, hrd, hl, hm, hlen, hE⟩ := open_each (fun cs (b : Bool) => cs = [.bool b]) Try.underlying30 (size := 1) (by kernel_rfl) (by omega) (fun n cs x hx => by
    obtain ⟨b, h1, _⟩ := DataW.trod_bool Try.underlying4 hx
    exact ⟨b, h1⟩) h
  refine ⟨A, c, l, hcs, ?_, hl, hm⟩
  have e : cells = l.map Value.bool := by
    apply List.ext_getElem?
    intro i
    by_cases hi : i < l.length
    · have h1 := hE i _ (List.getElem?_eq_getElem hi)
      have hi2 : i < cells.length := by omega
      rw [Nat.mul_one, List.drop_eq_getElem_cons hi2, List.take_succ_cons, List.take_zero] at h1
      injection h1 with h1
      rw [List.getElem?_eq_getElem hi2, h1, List.getElem?_map, List.getElem?_eq_getElem hi]; rfl
    · rw [List.getElem?_eq_none (by omega), List.getElem?_eq_none (by simp; omega)]
  rw [← e]; exact hrd
end
end Go.Proofs.Ytcjofakhefpfdaa
