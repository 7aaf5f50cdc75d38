/- Which orders clash, in lists. Of no walk. -/
import Derived.Test.YtnphncemghfkbaaOrdL
import Derived.Test.YtnphncemghfkbaaOdI
import Derived.Test.YtnphncemghfkbaaIdMap
namespace Go.Proofs.Ytnphncemghfkbaa
open Go.RowKit Go.My Go.Maps
set_option linter.unusedSimpArgs false
set_option linter.unusedVariables false

def Od.id (o : Od) : Idk := (o.cl, o.sq)
def idsO (l : List Od) : List Idk := l.map Od.id
def meetL (x y : List (List UInt8)) : Bool := x.any fun s => decide (s ∈ y)
def clashB (a b : Od) : Bool := decide (a.id = b.id ∨ a.kd = 6 ∨ b.kd = 6 ∨ (a.kd = 1 ∧ b.kd = 1)) || meetL (touchL a) (touchL b)
theorem meetL_iff (x y : List (List UInt8)) : meetL x y = true ↔ ∃ s, s ∈ x ∧ s ∈ y := by
  unfold meetL
  rw [List.any_eq_true]
  exact ⟨fun ⟨s, h, k⟩ => ⟨s, h, of_decide_eq_true k⟩, fun ⟨s, h, k⟩ => ⟨s, h, decide_eq_true k⟩⟩
theorem meetL_comm (x y : List (List UInt8)) : meetL x y = meetL y x := by
  rw [Bool.eq_iff_iff, meetL_iff, meetL_iff]
  exact ⟨fun ⟨s, h, k⟩ => ⟨s, k, h⟩, fun ⟨s, h, k⟩ => ⟨s, k, h⟩⟩
theorem clashB_comm (a b : Od) : clashB a b = clashB b a := by
  unfold clashB
  rw [meetL_comm]
  congr 1
  apply decide_eq_decide.2
  constructor
  · rintro (h | h | h | h)
    · exact .inl h.symm
    · exact .inr (.inr (.inl h))
    · exact .inr (.inl h)
    · exact .inr (.inr (.inr ⟨h.2, h.1⟩))
  · rintro (h | h | h | h)
    · exact .inl h.symm
    · exact .inr (.inr (.inl h))
    · exact .inr (.inl h)
    · exact .inr (.inr (.inr ⟨h.2, h.1⟩))
theorem clashB_self (a : Od) : clashB a a = true := by
  unfold clashB
  rw [decide_eq_true (.inl rfl)]
  rfl
theorem clashB_close (a b : Od) (h : a.kd = 6) : clashB a b = true := by
  unfold clashB
  rw [decide_eq_true (.inr (.inl h))]
  rfl
/-- no Id twice -/
def rightL (l : List Od) : Bool := decide ((idsO l).Nodup)
theorem idsO_snoc (l : List Od) (o : Od) : idsO (l ++ [o]) = idsO l ++ [o.id] := by
  unfold idsO
  rw [List.map_append]
  rfl
theorem idsO_take (l : List Od) {k : Nat} (hk : k < l.length) : idsO (l.take (k + 1)) = idsO (l.take k) ++ [l[k].id] := by
  rw [List.take_succ_eq_append_getElem hk, idsO_snoc]
end Go.Proofs.Ytnphncemghfkbaa
