/- Replies, as they are in lists. -/
import Derived.Test.YtnphncemghfkbaaKit0
import Derived.Test.YtnphncemghfkbaaCoinsMath
namespace Go.Proofs.Ytnphncemghfkbaa
open Go.RowKit Go.My Go.Maps
set_option linter.unusedSimpArgs false
set_option linter.unusedVariables false
/-- a reply -/
structure Rp where
  err : Int
  hv : Int
  st : Int
  num : Int
instance : DecidableEq Rp := fun a b =>
  if h : a.err = b.err ∧ a.hv = b.hv ∧ a.st = b.st ∧ a.num = b.num then isTrue (by cases a; cases b; simp_all) else isFalse (fun e => h (by subst e; exact ⟨rfl, rfl, rfl, rfl⟩))
def Rp.ok (r : Rp) : Prop := In64 r.err ∧ In64 r.hv ∧ In64 r.st ∧ In64 r.num
def Rp.val (r : Rp) : Value := .agg #[.int .i64 r.err, .int .i64 r.hv, .int .i64 r.st, .int .i64 r.num]
end Go.Proofs.Ytnphncemghfkbaa
