/- clash.kept, with the closure of clash.without; clash.contains. -/
import Derived.Test.YtlanhclgbkhdlaaGreatClash8
namespace Go.Proofs.YtlanhclgbkhdlaaGreat
open Go.RowKit Go.My Go.Maps Go.WideMaps
set_option linter.unusedSimpArgs false
set_option linter.unusedVariables false
attribute [local go_sem ↓] Go.wp_at_zero Go.wp_at_succ

def KpRel (w : World) (q : Od → Bool) (l : List Od) (lv iv : Value) (wr : World) : Prop := ∃ k : Nat, k ≤ l.length ∧ iv = .int .i64 k ∧ OwnN w.heap.size wr lv ((l.take k).filter q) ∧ Fr No w wr ∧ Newer w.heap.size none lv.ownBlock
end Go.Proofs.YtlanhclgbkhdlaaGreat
