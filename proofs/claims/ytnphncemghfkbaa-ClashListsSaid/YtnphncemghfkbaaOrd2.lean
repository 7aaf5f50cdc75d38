/- Contracts of package order: legs. -/
import Derived.Test.YtnphncemghfkbaaOrd1
import Derived.Sort.Walk0
namespace Go.Proofs.Ytnphncemghfkbaa
open Go.RowKit Go.My Go.Maps
set_option linter.unusedSimpArgs false
set_option linter.unusedVariables false
attribute [local go_sem ↓] Go.wp_at_zero Go.wp_at_succ

/-- the first leg for which q holds -/
def idxL (q : Lg → Bool) (L : List Lg) : Int := match L.findIdx? q with | some i => (i : Int) | none => -1
def IxRel (w : World) (q : Lg → Bool) (L : List Lg) (iv : Value) (wr : World) : Prop := ∃ k : Nat, k ≤ L.length ∧ iv = .int .i64 k ∧ (∀ g ∈ L.take k, q g = false) ∧ Fr No w wr
end Go.Proofs.Ytnphncemghfkbaa
