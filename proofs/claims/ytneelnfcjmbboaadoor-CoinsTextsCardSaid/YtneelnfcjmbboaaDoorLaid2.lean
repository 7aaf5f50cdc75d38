/- What the listed errors read as gives the walks their facts. -/
import Derived.Test.YtneelnfcjmbboaaDoorLaid
import Derived.Test.YtneelnfcjmbboaaDoorCoinsLaw7
import Derived.Stop.LaidErr
import Derived.Stop.ErrReads
namespace Go.Proofs.YtneelnfcjmbboaaDoor
open Go.RowKit Go.My Go.Stop Go.ChangeAt
set_option linter.unusedVariables false

theorem var_cell {W : World} {n : String} {g : Nat} {v : Value} (hg : Tryd.prog.globalNamed n = some g) (h : W.var? Tryd.prog n = some #[v]) : W.cell? ⟨g, 0, none⟩ = some v := by
  have := World.var?_cell hg h 0
  simpa using this
theorem star : "*" ++ "errors.errorString" = "*errors.errorString" := by decide
theorem row_err (u : TypeId) (h : Tryd.prog.typeName? 3 u = some "*errors.errorString") : u = 105 :=
  typeName_ptr_named (nm := "errors.errorString") (by rw [star]; kernel_rfl) (by kernel_rfl) (by decide) u (by rw [star]; exact h)
theorem errs_of_laid {W : World} (h : laidMetH Tryd.prog Rows.coinsBackRow.laid W) : Errs W := by
  have h1 : laidMet Tryd.prog Rows.coinsBackRow.laid W := by
    rw [← MakeChecks.laidMetH_plain Tryd.prog Rows.coinsBackRow.laid W (by kernel_rfl)]
    exact h
  have h2 : laidMet Tryd.prog [("strconv.ErrRange", Rows.laid_strconv_ErrRange), ("strconv.ErrSyntax", Rows.laid_strconv_ErrSyntax)] W := h1.tail.tail.tail
  have h3 : laidMet Tryd.prog [("strconv.ErrSyntax", Rows.laid_strconv_ErrSyntax)] W := h2.tail
  have g0 : Tryd.prog.globalNamed "strconv.ErrSyntax" = some 0 := by kernel_rfl
  have g1 : Tryd.prog.globalNamed "strconv.ErrRange" = some 1 := by kernel_rfl
  obtain ⟨a1, s1, v1, _⟩ := laid_sentinel h2 g1 (ti := 56) (by kernel_rfl) Tryd.underlying56 row_err Tryd.underlying105 Tryd.underlying107 rfl rfl Tryd.underlying9 (by kernel_rfl) (by kernel_rfl)
  obtain ⟨a0, s0, v0, _⟩ := laid_sentinel h3 g0 (ti := 56) (by kernel_rfl) Tryd.underlying56 row_err Tryd.underlying105 Tryd.underlying107 rfl rfl Tryd.underlying9 (by kernel_rfl) (by kernel_rfl)
  exact ⟨⟨_, _, var_cell g0 v0⟩, _, _, var_cell g1 v1⟩
end Go.Proofs.YtneelnfcjmbboaaDoor
