/- Contracts of package order: what the fields of a kind's orders may be. -/
import Derived.Test.YtnphncemghfkbaaShapes2
import Derived.Deep.DrawnRows
namespace Go.Proofs.Ytnphncemghfkbaa
open Go.RowKit Go.My Go.Maps
set_option linter.unusedSimpArgs false
set_option linter.unusedVariables false
attribute [local go_sem ↓] Go.wp_at_zero Go.wp_at_succ

/-- answers b, and changes nothing -/
def AnsB (f : FuncId) (args : Array Value) (b : Bool) : Prop := ∀ W, Calls Try.prog f args W fun e w' => e = .returned (.bool b) ∧ Fr No W w'
/-- may an Id be? -/
def idB (c s : Int) : Bool := decide (0 ≤ c) && (decide (c ≤ 9) && (decide (1 ≤ s) && decide (s ≤ 999)))
end Go.Proofs.Ytnphncemghfkbaa
