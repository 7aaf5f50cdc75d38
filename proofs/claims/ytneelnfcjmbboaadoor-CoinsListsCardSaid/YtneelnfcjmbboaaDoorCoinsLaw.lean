/- The laws of package coins, as walks: CoinsBetween, CoinsTimes, CoinsOrder. -/
import Derived.Test.YtneelnfcjmbboaaDoorCoins3
namespace Go.Proofs.YtneelnfcjmbboaaDoor
open Go.RowKit Go.My
set_option linter.unusedSimpArgs false
set_option linter.unusedVariables false

set_option maxHeartbeats 1000000 in
theorem coinsBetween_walk (a lo hi : Int) (w : World) (ha : -9223372036854775808 ≤ a ∧ a ≤ 9223372036854775807) (hl : -9223372036854775808 ≤ lo ∧ lo ≤ 9223372036854775807) (hh : -9223372036854775808 ≤ hi ∧ hi ≤ 9223372036854775807) :
    Calls Tryd.prog 9 #[.int .i64 a, .int .i64 lo, .int .i64 hi] w (RetTrue w) := by
  have HBT := Lib.hid fun W => between_any a lo hi W ha hl hh
  obtain ⟨n, hn⟩ : ∃ n, n = betweenF a lo hi := ⟨_, rfl⟩
  rw [← hn] at HBT
  unfold betweenF at hn
  go_enter Tryd.func9, Tryd.ntmps9
  go_wp2_with fail
  refine (livesC _).mono ?_
  rintro e w1 ⟨rfl, hb1⟩
  clear ha hl hh
  by_cases h1 : hi < lo
  · obtain rfl : n = lo := by omega
    clear hn
    go_wp2_with (go_at_call 27; refine (HBT.out _).mono ?_; rintro e w2 ⟨rfl, rfl⟩)
    go_ret
    exact ⟨rfl, hb1⟩
  · by_cases h2 : a < lo
    · obtain rfl : n = lo := by omega
      have h3 : ¬ hi < a := by omega
      have h4 : ¬ n ≤ a := by omega
      clear hn
      go_wp2_with (go_at_call 27; refine (HBT.out _).mono ?_; rintro e w2 ⟨rfl, rfl⟩)
      go_ret
      exact ⟨rfl, hb1⟩
    · by_cases h3 : hi < a
      · obtain rfl : n = hi := by omega
        have h4 : lo ≤ a := by omega
        have h5 : ¬ a ≤ n := by omega
        have h6 : ¬ n < lo := by omega
        clear hn
        go_wp2_with (go_at_call 27; refine (HBT.out _).mono ?_; rintro e w2 ⟨rfl, rfl⟩)
        go_ret
        exact ⟨rfl, hb1⟩
      · obtain rfl : n = a := by omega
        clear hn
        go_wp2_with (go_at_call 27; refine (HBT.out _).mono ?_; rintro e w2 ⟨rfl, rfl⟩)
        go_ret
        exact ⟨rfl, hb1⟩
end Go.Proofs.YtneelnfcjmbboaaDoor
