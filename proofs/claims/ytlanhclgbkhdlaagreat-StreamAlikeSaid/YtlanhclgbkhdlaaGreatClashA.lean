/- clash.contains. -/
import Derived.Test.YtlanhclgbkhdlaaGreatClash9
import Derived.Deep.RegionWith
namespace Go.Proofs.YtlanhclgbkhdlaaGreat
open Go.RowKit Go.My Go.Maps Go.WideMaps
set_option linter.unusedSimpArgs false
set_option linter.unusedVariables false
attribute [local go_sem ↓] Go.wp_at_zero Go.wp_at_succ

def CtRel (w : World) (b a : List Od) (iv : Value) (wr : World) : Prop := ∃ k : Nat, k ≤ a.length ∧ iv = .int .i64 k ∧ (a.take k).all (hasB b) = true ∧ Fr No w wr
end Go.Proofs.YtlanhclgbkhdlaaGreat
