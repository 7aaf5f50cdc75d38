/- The document's own Same over bytes. -/
import Derived.Test.YtlcbbkookjmnkaaPackR
namespace Go.Proofs.Ytlcbbkookjmnkaa
open Go.RowKit Go.My
set_option linter.unusedSimpArgs false
set_option linter.unusedVariables false

theorem sameB_any (F G : Nat → Prop) (A B : Option Addr) (n c m d : Nat) (l r : List UInt8) (w : World) (hl : Rd w F 1 A n (bs l)) (hr : Rd w G 1 B m (bs r)) :
    Calls Try.prog 15 #[.slice A n c, .slice B m d] w fun e w' => e = .returned (.bool (decide (l = r))) ∧ w = w' := by
  have h1 := run_str_of_bytes (P := Try.prog) (c := c) 32 9 5 Try.underlying32 Try.underlying5 Try.underlying9 hl
  have h2 := run_str_of_bytes (P := Try.prog) (c := d) 32 9 5 Try.underlying32 Try.underlying5 Try.underlying9 hr
  clear hl hr
  go_enter Try.func15, Try.ntmps15
  go_wp2
  go_ret
  exact ⟨by rw [show (l == r) = decide (l = r) by rw [Bool.eq_iff_iff]; simp]; rfl, rfl⟩

theorem sameB_eq (F G : Nat → Prop) (A B : Option Addr) (n c m d : Nat) (l r : List UInt8) (w : World) (hlr : l = r) (hl : Rd w F 1 A n (bs l)) (hr : Rd w G 1 B m (bs r)) :
    Calls Try.prog 15 #[.slice A n c, .slice B m d] w fun e w' => e = .returned (.bool true) ∧ w = w' := by
  have h := sameB_any F G A B n c m d l r w hl hr
  rwa [decide_eq_true hlr] at h

end Go.Proofs.Ytlcbbkookjmnkaa
