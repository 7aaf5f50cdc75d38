/- clash.Right: no Id twice. -/
import Derived.Test.YtlanhclgbkhdlaaGreatClash5
namespace Go.Proofs.YtlanhclgbkhdlaaGreat
open Go.RowKit Go.My Go.Maps Go.WideMaps
set_option linter.unusedSimpArgs false
set_option linter.unusedVariables false
attribute [local go_sem ↓] Go.wp_at_zero Go.wp_at_succ

theorem right_eq (l : List Od) : decide (((keysF (idsO l)).length : Int) = (l.length : Int)) = rightL l := by
  unfold rightL
  apply decide_eq_decide.2
  rw [← len_keysF_iff]
  unfold idsO
  rw [List.length_map]
  omega
end Go.Proofs.YtlanhclgbkhdlaaGreat
