/- The closure of clash.begins: may an order stand ahead of another one? -/
import Derived.Test.YtlanhclgbkhdlaaGreatClashA
import Derived.Test.YtlanhclgbkhdlaaGreatQ08
namespace Go.Proofs.YtlanhclgbkhdlaaGreat
open Go.RowKit Go.My Go.Maps Go.WideMaps
set_option linter.unusedSimpArgs false
set_option linter.unusedVariables false
attribute [local go_sem ↓] Go.wp_at_zero Go.wp_at_succ

def badI (L : List Idk) (o x : Od) : Bool := clashB x o && (leftB L x || decide (posO (posF L o.id) < posO (posF L x.id)))
theorem badI_eq (a : List Od) (o x : Od) : badI (idsO a) o x = badB a o x := by
  unfold badI badB leftB
  rw [posF_isSome]
end Go.Proofs.YtlanhclgbkhdlaaGreat
