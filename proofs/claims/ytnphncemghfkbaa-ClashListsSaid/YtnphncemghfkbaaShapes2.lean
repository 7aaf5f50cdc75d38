/- Contracts of package order: shapes, as a table. -/
import Derived.Test.YtnphncemghfkbaaShapes
namespace Go.Proofs.Ytnphncemghfkbaa
open Go.RowKit Go.My Go.Maps
set_option linter.unusedSimpArgs false
set_option linter.unusedVariables false

def Inj7 (g : Nat → Nat) : Prop := ∀ j k, j < 7 → k < 7 → g j = g k → j = k
end Go.Proofs.Ytnphncemghfkbaa
