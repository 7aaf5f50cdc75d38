/- clash.positions: where each order of a list stands. -/
import Derived.Test.YtlanhclgbkhdlaaGreatClash4
import Derived.Test.YtlanhclgbkhdlaaGreatQ16
namespace Go.Proofs.YtlanhclgbkhdlaaGreat
open Go.RowKit Go.My Go.Maps Go.WideMaps
set_option linter.unusedSimpArgs false
set_option linter.unusedVariables false
attribute [local go_sem ↓] Go.wp_at_zero Go.wp_at_succ

def PoRel (w : World) (m : Nat) (l : List Od) (iv : Value) (wr : World) : Prop := ∃ k : Nat, k ≤ l.length ∧ iv = .int .i64 k ∧ IMp wr m (idsO (l.take k)) ∧ Fr No w wr
end Go.Proofs.YtlanhclgbkhdlaaGreat
