/- clash.Right: no Id twice. -/
import Derived.Test.YtnphncemghfkbaaClash5
namespace Go.Proofs.Ytnphncemghfkbaa
open Go.RowKit Go.My Go.Maps Go.WideMaps
set_option linter.unusedSimpArgs false
set_option linter.unusedVariables false
attribute [local go_sem ↓] Go.wp_at_zero Go.wp_at_succ

theorem IMp.len_ {w : World} {m : Nat} {L : List Idk} (h : IMp w m L) (ty : TypeId) : (Builtin.len_ #[49] ty #[.map (some m)]).run Try.prog w = .ok (.int .i64 (keysF L).length) w := by
  obtain ⟨D, hD, hR⟩ := h.own
  have := hD.len Try.underlying49 ty
  rw [hR.size] at this
  exact this
theorem right_eq (l : List Od) : decide (((keysF (idsO l)).length : Int) = (l.length : Int)) = rightL l := by
  unfold rightL
  apply decide_eq_decide.2
  rw [← len_keysF_iff]
  unfold idsO
  rw [List.length_map]
  omega
set_option maxRecDepth 100000 in
theorem rightC_any (w0 w : World) (F : Nat → Prop) (A : Option Addr) (c : Nat) (l : List Od) (hl : OdsS w0 w F A l) (hn : l.length ≤ 1000000) :
    Calls Try.prog 10 #[.slice A l.length c] w fun e w' => e = .returned (.bool (rightL l)) ∧ Fr No w w' := by
  have HP := Lib.hid (positions_any w0 w F A c l hl hn)
  have HE := Lib.hid (right_eq l)
  clear hl hn
  go_enter Try.func10, Try.ntmps10
  go_wp2_with fail
  (with_reducible refine HP.out.mono ?_)
  rintro e w1 ⟨m, rfl, hm, hf, -⟩
  have hlen := fun ty => hm.len_ ty
  generalize (keysF (idsO l)).length = kn at *
  go_wp2
  go_ret
  exact ⟨by rw [← HE.out]; rfl, hf⟩
end Go.Proofs.Ytnphncemghfkbaa
