/- Contracts of package coins: sums (what charts need of it). -/
import Derived.Test.YtnphncemghfkbaaChecked
import Derived.Test.YtnphncemghfkbaaLib
import Derived.Test.YtnphncemghfkbaaLib2
import Derived.Test.YtnphncemghfkbaaOpen
import Derived.Test.YtnphncemghfkbaaCoinsMath
import Derived.RegionCalls
import Derived.Shelf.Spec.BitsCarry
namespace Go.Proofs.Ytnphncemghfkbaa
open Go.RowKit Go.My
set_option linter.unusedSimpArgs false
set_option linter.unusedVariables false

/-- a sum, or that it is none -/
def two64 (x : Int) : Value := .tuple #[.int .i64 (sumV x), .int .i64 (sumN x : Int)]
theorem two64_in {x : Int} (h : In64 x) : two64 x = .tuple #[.int .i64 x, .int .i64 0] := by unfold two64; rw [sumV_in h, sumN_in h]; rfl
theorem two64_out {x : Int} (h : ¬ In64 x) : two64 x = .tuple #[.int .i64 0, .int .i64 2] := by unfold two64; rw [sumV_out h, sumN_out h]; rfl

def TotRel (w : World) (l : List Int) (hv lv iv : Value) (wr : World) : Prop :=
  ∃ k : Nat, k ≤ l.length ∧ iv = .int .i64 k ∧ hv = .int .u64 ((total (l.take k) / 18446744073709551616) % 18446744073709551616) ∧ lv = .int .u64 (total (l.take k) % 18446744073709551616) ∧ wr = w

end Go.Proofs.Ytnphncemghfkbaa
