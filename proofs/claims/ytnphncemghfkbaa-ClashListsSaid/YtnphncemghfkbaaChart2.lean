/- Contracts of package chart: a chart in memory; New, Open. -/
import Derived.Test.YtnphncemghfkbaaChart
import Derived.Maps.OwnSet
import Derived.Maps.OwnOps
namespace Go.Proofs.Ytnphncemghfkbaa
open Go.RowKit Go.My Go.Maps
set_option linter.unusedSimpArgs false
set_option linter.unusedVariables false

theorem law : Keyed Try.prog 9 := string_keyed Try.underlying9
def noA : Ac := ⟨[], 0, 0, 0⟩
theorem noA_val : noA.val = .agg #[.string ByteArray.empty, .int .i64 0, .int .i64 0, .int .i64 0] := rfl

/-- block m is a map that holds just these accounts -/
def MpS (w : World) (m : Nat) (S : List Ac) : Prop := w.ownsMap Try.prog 9 acR m S.length (dOf S) ∧ Rise S
section
variable {w w' : World} {p m : Nat} {S S' : List Ac}
theorem owns_len {n : Nat} (h : w.ownsMap Try.prog 9 acR m n (dOf S)) : w.ownsMap Try.prog 9 acR m S.length (dOf S) := by
  obtain ⟨es, clock, hb, F, hs, hD⟩ := h
  refine ⟨es, clock, hb, F, ?_, hD⟩
  have h1 := size_dOf S
  rw [hD, Maps.size_eq, length_sorted, List.length_map] at h1
  simp at h1
  omega
theorem MpS.lt (h : MpS w m S) : m < w.heap.size := h.1.lt
theorem MpS.fr {F : Nat → Prop} (h : MpS w m S) (hf : Fr F w w') (hn : ¬ F m) : MpS w' m S := by
  obtain ⟨⟨es, clock, hb, r⟩, hr⟩ := h
  exact ⟨⟨es, clock, (hf.block m (Array.getElem?_eq_some_iff.1 hb).1 hn).trans hb, r⟩, hr⟩
theorem MpS.ne_ {g : Nat} {t : TypeId} {cs : Array Value} (h : MpS w m S) (hg : Blk w g t cs) : m ≠ g := by
  rintro rfl
  obtain ⟨⟨es, clock, hb, _⟩, _⟩ := h
  unfold Blk at hg
  rw [hb] at hg
  cases hg
theorem key_mk (s : ByteArray) (hs : s.size ≤ maxLen) : keyOf Try.prog 9 (.string s) = some (.string s.data.toList) := Go.WideMaps.keyOf_string_mk Try.underlying9 hs
end

/-- what Open answers, and what is there then -/
def openE (S : List Ac) (nm : List UInt8) (lim : Int) : Int := if nameB nm = false ∨ lim < 0 then 1 else if (getA S nm).isSome then 7 else if 12 ≤ S.length then 5 else 0
def openS (S : List Ac) (nm : List UInt8) (lim : Int) : List Ac := if openE S nm lim = 0 then putA ⟨nm, 0, 0, lim⟩ S else S

end Go.Proofs.Ytnphncemghfkbaa
