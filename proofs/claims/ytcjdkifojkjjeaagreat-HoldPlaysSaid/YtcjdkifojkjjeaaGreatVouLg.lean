/- Legs as cells; the first eight of them. -/
import Derived.Test.YtcjdkifojkjjeaaGreatVou3
import Derived.Test.YtcjdkifojkjjeaaGreatVouRow
import Derived.Test.YtcjdkifojkjjeaaGreatLgs
namespace Go.Proofs.YtcjdkifojkjjeaaGreat
open Go.RowKit Go.My Go.Maps
set_option linter.unusedSimpArgs false
set_option linter.unusedVariables false

theorem few_legs {w : World} {B : Option Addr} {d : Nat} {cells2 : List Value} {L0 : List Lg} (hr2 : Rd w (Lt w.heap.size) 2 B L0.length cells2) (hd : L0.length ≤ d) (hE2 : Each RdLg 2 cells2 L0) :
    ∃ L : List Lg, L.length = min L0.length 8 ∧ L.length ≤ 8 ∧ L.length ≤ d ∧ Rd w (Lt w.heap.size) 2 B L.length (lgs L) ∧ Each RdLg 2 (lgs L) L ∧ (∀ g ∈ L, g.ok) := by
  have ho : ∀ g ∈ L0.take 8, g.ok := fun g hg => each_ok hE2 g (List.mem_of_mem_take hg)
  refine ⟨L0.take 8, by rw [List.length_take]; omega, by rw [List.length_take]; omega, by rw [List.length_take]; omega, ?_, lgs_each _ ho, ho⟩
  have h1 := hr2.take (k := (L0.take 8).length) (by rw [List.length_take]; omega)
  have h2 : cells2.take ((L0.take 8).length * 2) = lgs (L0.take 8) := by
    rw [each_lgs L0 cells2 hE2]
    have e : lgs L0 = lgs (L0.take 8) ++ lgs (L0.drop 8) := by rw [← lgs_append, List.take_append_drop]
    rw [e]
    exact List.take_left' (lgs_length _)
  rwa [h2] at h1
end Go.Proofs.YtcjdkifojkjjeaaGreat
