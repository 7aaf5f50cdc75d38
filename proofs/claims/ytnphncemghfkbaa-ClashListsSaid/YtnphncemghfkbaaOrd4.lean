/- Contracts of package order: Right. -/
import Derived.Test.YtnphncemghfkbaaOrd3
import Derived.Deep.RegionHeld3
namespace Go.Proofs.Ytnphncemghfkbaa
open Go.RowKit Go.My Go.Maps
set_option linter.unusedSimpArgs false
set_option linter.unusedVariables false
attribute [local go_sem ↓] Go.wp_at_zero Go.wp_at_succ

/-- an order -/
structure Od where
  cl : Int
  sq : Int
  kd : Int
  acct : ByteArray
  peer : ByteArray
  sum : Int
  legs : List Lg
  per : Int
  hold : Int
  note : ByteArray
def Od.an (o : Od) : List UInt8 := o.acct.data.toList
def Od.pn (o : Od) : List UInt8 := o.peer.data.toList
def Od.ok (o : Od) : Prop := In64 o.cl ∧ In64 o.sq ∧ In64 o.kd ∧ o.acct.size ≤ maxLen ∧ o.peer.size ≤ maxLen ∧ In64 o.sum ∧ In64 o.per ∧ In64 o.hold ∧ o.note.size ≤ maxLen
/-- its cells, the legs' slice given -/
def Od.cs (o : Od) (v : Value) : List Value := [.int .i64 o.cl, .int .i64 o.sq, .int .i64 o.kd, .string o.acct, .string o.peer, .int .i64 o.sum, v, .int .i64 o.per, .int .i64 o.hold, .string o.note]
/-- legs in memory -/
def LgS (w : World) (F : Nat → Prop) (v : Value) (L : List Lg) : Prop := ∃ A c cells, v = .slice A L.length c ∧ Rd w F 2 A L.length cells ∧ Each RdLg 2 cells L ∧ L.length ≤ c ∧ c ≤ maxLen
theorem LgS.no {w w' : World} {F : Nat → Prop} {v : Value} {L : List Lg} (h : LgS w F v L) (hf : Fr No w w') : LgS w' F v L := by
  obtain ⟨A, c, cells, rfl, hr, r⟩ := h
  exact ⟨A, c, cells, rfl, hr.fr (by omega) hf (fun _ _ _ h => h), r⟩

/-! ### which orders may be -/
def acctB (o : Od) : Bool := if o.kd = 2 ∨ o.kd = 6 then o.an.isEmpty else nameB o.an
def peerB (o : Od) : Bool := if o.kd = 4 then nameB o.pn && !(o.pn == o.an) else o.pn.isEmpty
def sumB (o : Od) : Bool := if o.kd = 1 then decide (0 ≤ o.sum) else if o.kd = 3 ∨ o.kd = 4 then decide (1 ≤ o.sum) else o.sum == 0
def legsB (o : Od) : Bool := if o.kd = 2 then rightB o.legs else o.legs.length == 0
def perB (o : Od) : Bool := if o.kd = 2 ∨ o.kd = 4 ∨ o.kd = 6 then decide (1 ≤ o.per) && decide (o.per ≤ 1000) else o.per == 0
def holdB (o : Od) : Bool := if o.kd = 4 ∨ o.kd = 5 then decide (1 ≤ o.hold) && decide (o.hold ≤ 9999) else o.hold == 0
def noteB (o : Od) : Bool := if o.kd = 2 then decide (o.note.data.toList.length ≤ 20) else o.note.data.toList.isEmpty
def rightO (o : Od) : Bool := decide (1 ≤ o.kd) && (decide (o.kd ≤ 7) && (idB o.cl o.sq && (acctB o && (peerB o && (sumB o && (legsB o && (perB o && (holdB o && noteB o))))))))

end Go.Proofs.Ytnphncemghfkbaa
