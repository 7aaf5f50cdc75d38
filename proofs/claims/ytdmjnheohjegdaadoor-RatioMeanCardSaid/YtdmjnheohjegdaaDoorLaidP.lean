/- What the listed variables read as gives the walks their facts. -/
import Derived.Test.YtdmjnheohjegdaaDoorRows
import Derived.Test.YtdmjnheohjegdaaDoorCoins4
import Derived.MakeChecks
import Derived.Stop.LaidErr
import Derived.Lib.LaidTab
namespace Go.Proofs.YtdmjnheohjegdaaDoor
open Go.RowKit Go.My
set_option linter.unusedVariables false

theorem tab_of_laid {W : World} (h : laidMetH Tryd.prog Rows.ratioTimesRow.laid W) : Tab W := by
  have h1 : laidMet Tryd.prog Rows.ratioTimesRow.laid W := by
    rw [← MakeChecks.laidMetH_plain Tryd.prog Rows.ratioTimesRow.laid W (by kernel_rfl)]
    exact h
  have h2 : laidMet Tryd.prog (("internal/strconv.uint64pow10", Lib.tabData .u64 Lib.pow10Tab) :: []) W := h1.tail.tail
  exact Lib.tabIs_of_head (g := 1) (t := 92) (e := 49) (n := 20) (by kernel_rfl) (by kernel_rfl) Tryd.underlying92 Tryd.underlying49 (by kernel_rfl) (by kernel_rfl) h2
end Go.Proofs.YtdmjnheohjegdaaDoor
