/- Bytes in rows: what walks of package pack share. -/
import Derived.Test.YtlcbbkookjmnkaaKit0
namespace Go.Proofs.Ytlcbbkookjmnkaa
open Go.RowKit Go.My
set_option linter.unusedSimpArgs false
set_option linter.unusedVariables false

theorem elB : El Try.prog 32 5 1 1 := ⟨Try.underlying32, by
  have h : (Try.prog.info? 5).map (fun i => (i.zero, i.size, i.bytes)) = some (some (.int .u8 0), 1, 1) := by kernel_rfl
  obtain ⟨i, hi, hz, hs, hb⟩ := info_parts h
  exact ⟨i, _, hi, hz, hs, hb, rfl⟩, by omega⟩

theorem srcOf {v : Value} {n : Nat} {l : List UInt8} {w : World} (h : Own w 5 1 v n (bs l)) : Src Try.prog w 1 32 v n (bs l) := by
  obtain ⟨A, c, rfl, _, _⟩ := h.form
  exact Src.of_rd h.rd (bs_one l) Try.underlying32

end Go.Proofs.Ytlcbbkookjmnkaa
