/- The laws of package coins, as walks: CoinsAdd. -/
import Derived.Test.YtneelnfcjmbboaaDoorCoinsRef3
namespace Go.Proofs.YtneelnfcjmbboaaDoor
open Go.RowKit Go.My
set_option linter.unusedSimpArgs false
set_option linter.unusedVariables false

set_option maxHeartbeats 2000000 in
theorem coinsAdd_walk (a b : Int) (w : World) (ha : -9223372036854775808 ≤ a ∧ a ≤ 9223372036854775807) (hb : -9223372036854775808 ≤ b ∧ b ≤ 9223372036854775807) :
    Calls Tryd.prog 3 #[.int .i64 a, .int .i64 b] w (RetTrue w) := by
  have h1 := Lib.hid fun W => add_any a b W ha hb
  have h2 := Lib.hid fun W => refadd_any a b W ha hb
  have h3 := Lib.hid fun W => less_any a b W ha hb
  have h4 := Lib.hid fun W => refless_any a b W ha hb
  have h5 := Lib.hid fun W => times_any a b W ha hb
  have h6 := Lib.hid fun W => reftimes_any a b W ha hb
  unfold two64 at h1 h2 h3 h4 h5 h6
  generalize sumV (a + b) = v1 at *
  generalize ((sumN (a + b) : Nat) : Int) = n1 at *
  generalize sumV (a - b) = v2 at *
  generalize ((sumN (a - b) : Nat) : Int) = n2 at *
  generalize sumV (a * b) = v3 at *
  generalize ((sumN (a * b) : Nat) : Int) = n3 at *
  clear ha hb
  go_enter Tryd.func3, Tryd.ntmps3
  go_wp2_with fail
  refine (livesC _).mono ?_
  rintro e w0 ⟨rfl, hb0⟩
  go_wp2_with fail
  refine (h1.out _).mono ?_
  rintro e w1 ⟨rfl, rfl⟩
  go_wp2_with fail
  refine (h2.out _).mono ?_
  rintro e w2 ⟨rfl, hb2⟩
  have hb2' := below_fresh hb0 hb2 hb0.size
  go_wp2_with fail
  refine (h3.out _).mono ?_
  rintro e w1 ⟨rfl, rfl⟩
  go_wp2_with fail
  refine (h4.out _).mono ?_
  rintro e w4 ⟨rfl, hb4⟩
  have hb4' := below_fresh hb2' hb4 hb2'.size
  go_wp2_with fail
  refine (h5.out _).mono ?_
  rintro e w1 ⟨rfl, rfl⟩
  go_wp2_with fail
  refine (h6.out _).mono ?_
  rintro e w6 ⟨rfl, hb6⟩
  have hb6' := below_fresh hb4' hb6 hb4'.size
  go_wp2
  go_ret
  exact ⟨rfl, hb6'⟩
end Go.Proofs.YtneelnfcjmbboaaDoor
