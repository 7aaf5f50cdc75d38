/- What the listed variables read as gives the walks their facts. -/
import Derived.Test.YtneelnfcjmbboaaDoorRows
import Derived.Test.YtneelnfcjmbboaaDoorCoins4
import Derived.MakeChecks
import Derived.Stop.LaidErr
import Derived.Lib.LaidTab
namespace Go.Proofs.YtneelnfcjmbboaaDoor
open Go.RowKit Go.My
set_option linter.unusedVariables false

theorem tab_of_laid {W : World} (h : laidMetH Tryd.prog Rows.coinsBackRow.laid W) : Tab W := by
  have h1 : laidMet Tryd.prog Rows.coinsBackRow.laid W := by
    rw [← MakeChecks.laidMetH_plain Tryd.prog Rows.coinsBackRow.laid W (by kernel_rfl)]
    exact h
  have h2 : laidMet Tryd.prog (("internal/strconv.uint64pow10", Lib.tabData .u64 Lib.pow10Tab) :: [("strconv.ErrRange", Rows.laid_strconv_ErrRange), ("strconv.ErrSyntax", Rows.laid_strconv_ErrSyntax)]) W := h1.tail.tail
  exact Lib.tabIs_of_head (g := 2) (t := 98) (e := 44) (n := 20) (by kernel_rfl) (by kernel_rfl) Tryd.underlying98 Tryd.underlying44 (by kernel_rfl) (by kernel_rfl) h2
end Go.Proofs.YtneelnfcjmbboaaDoor
