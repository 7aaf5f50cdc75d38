/- Contracts of package chart: names. -/
import Derived.Test.YtnphncemghfkbaaKit0
import Derived.Test.YtnphncemghfkbaaCoinsT
import Derived.Test.YtnphncemghfkbaaChartMath
import Derived.Laws.RangeAny
import Derived.Deep.DeepCutAuto
namespace Go.Proofs.Ytnphncemghfkbaa
open Go.RowKit Go.My
set_option linter.unusedSimpArgs false
set_option linter.unusedVariables false

/-- a sign of a name -/
def okc (c : UInt8) : Bool := decide ((97 ≤ c.toNat ∧ c.toNat ≤ 122) ∨ (48 ≤ c.toNat ∧ c.toNat ≤ 57))
def nameB (l : List UInt8) : Bool := l.all okc && (decide (1 ≤ l.length) && decide (l.length ≤ 8))
theorem name_bad (l : List UInt8) (k : Nat) (c : UInt8) (hk : l[k]? = some c) (h : okc c = false) : nameB l = false := by
  unfold nameB
  have : l.all okc = false := by
    rw [List.all_eq_false]
    exact ⟨c, List.mem_of_getElem? hk, by rw [h]; simp⟩
  rw [this]
  rfl
theorem name_end (l : List UInt8) (h : l.all okc = true) : nameB l = (decide (1 ≤ l.length) && decide (l.length ≤ 8)) := by unfold nameB; rw [h]; rfl
theorem take_ok (s : ByteArray) (k : Nat) (h : k < s.size) (hk : (s.data.toList.take k).all okc = true) (hc : okc s[k] = true) : (s.data.toList.take (k + 1)).all okc = true := by
  have : s.data.toList.take (k + 1) = s.data.toList.take k ++ [s[k]] := by
    rw [List.take_succ_eq_append_getElem (by simpa using h)]; rfl
  rw [this, List.all_append, hk]
  simp [hc]
theorem at_k (s : ByteArray) (k : Nat) (h : k < s.size) : s.data.toList[k]? = some s[k] := by
  rw [List.getElem?_eq_getElem (by simpa using h)]; rfl

def NmRel (s : ByteArray) (w wr : World) : Prop := ∃ k : Nat, k ≤ s.size ∧ wr = w.iter s k ∧ (s.data.toList.take k).all okc = true

end Go.Proofs.Ytnphncemghfkbaa
