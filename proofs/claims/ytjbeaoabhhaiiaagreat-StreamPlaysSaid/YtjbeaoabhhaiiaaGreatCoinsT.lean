/- Contracts of package coins: sums (what charts need of it). -/
import Derived.Test.YtjbeaoabhhaiiaaGreatChecked
import Derived.Test.YtjbeaoabhhaiiaaGreatLib
import Derived.Test.YtjbeaoabhhaiiaaGreatLib2
import Derived.Test.YtjbeaoabhhaiiaaGreatOpen
import Derived.Test.YtjbeaoabhhaiiaaGreatCoinsMath
import Derived.RegionCalls
import Derived.Shelf.Spec.BitsCarry
namespace Go.Proofs.YtjbeaoabhhaiiaaGreat
open Go.RowKit Go.My
set_option linter.unusedSimpArgs false
set_option linter.unusedVariables false

/-- a sum, or that it is none -/
def two64 (x : Int) : Value := .tuple #[.int .i64 (sumV x), .int .i64 (sumN x : Int)]
theorem two64_in {x : Int} (h : In64 x) : two64 x = .tuple #[.int .i64 x, .int .i64 0] := by unfold two64; rw [sumV_in h, sumN_in h]; rfl
theorem two64_out {x : Int} (h : ¬ In64 x) : two64 x = .tuple #[.int .i64 0, .int .i64 2] := by unfold two64; rw [sumV_out h, sumN_out h]; rfl

theorem add_any (a b : Int) (w : World) (ha : In64 a) (hb : In64 b) :
    Calls Tryz.prog 162 #[.int .i64 a, .int .i64 b] w fun e w' => e = .returned (two64 (a + b)) ∧ w = w' := by
  have HA := Lib.hid ha
  have HB := Lib.hid hb
  clear ha hb
  have hw := Lib.hid (wrap64_eq (a + b))
  by_cases h1 : 0 ≤ b <;> by_cases h2 : a ≤ wrap64 (a + b)
  all_goals
    go_enter Tryz.func162, Tryz.ntmps162
    go_wp2
    go_ret2
    have h3 := HA.out
    have h4 := HB.out
    have h5 := hw.out
    unfold In64 at h3 h4
    first
      | (rw [two64_in (by unfold In64; omega)]
         exact ⟨by rw [show wrap64 (a + b) = a + b by omega]; rfl, rfl⟩)
      | (rw [two64_out (by unfold In64; omega)]
         exact ⟨rfl, rfl⟩)
theorem less_any (a b : Int) (w : World) (ha : In64 a) (hb : In64 b) :
    Calls Tryz.prog 175 #[.int .i64 a, .int .i64 b] w fun e w' => e = .returned (two64 (a - b)) ∧ w = w' := by
  have HA := Lib.hid ha
  have HB := Lib.hid hb
  clear ha hb
  have hw := Lib.hid (wrap64_eq (a - b))
  by_cases h1 : 0 ≤ b <;> by_cases h2 : wrap64 (a - b) ≤ a
  all_goals
    go_enter Tryz.func175, Tryz.ntmps175
    go_wp2
    go_ret2
    have h3 := HA.out
    have h4 := HB.out
    have h5 := hw.out
    unfold In64 at h3 h4
    first
      | (rw [two64_in (by unfold In64; omega)]
         exact ⟨by rw [show wrap64 (a - b) = a - b by omega]; rfl, rfl⟩)
      | (rw [two64_out (by unfold In64; omega)]
         exact ⟨rfl, rfl⟩)
/-- bits.Add64, over Int -/
theorem add64 (x y c : Int) (hx : 0 ≤ x) (hx' : x < 18446744073709551616) (hy : 0 ≤ y) (hy' : y < 18446744073709551616) (hc0 : 0 ≤ c) (hc : c ≤ 1) (w : World) : (callFunc 179 #[.int .u64 x, .int .u64 y, .int .u64 c]).run Tryz.prog w =
    .ok (.value (.tuple #[.int .u64 ((x + y + c) % 18446744073709551616), .int .u64 ((x + y + c) / 18446744073709551616)])) w := by
  obtain ⟨x, rfl⟩ := Int.eq_ofNat_of_zero_le hx
  obtain ⟨y, rfl⟩ := Int.eq_ofNat_of_zero_le hy
  obtain ⟨c, rfl⟩ := Int.eq_ofNat_of_zero_le hc0
  rw [run_callFunc_extern Tryz.func179 (by kernel_rfl) (by kernel_rfl) (by kernel_rfl) (e := add64Entry) (by kernel_rfl), run_add64 x y c (by omega) (by omega) (by omega) (by omega)]
  simp only [Result.andThen]

theorem add64_0 (x y : Int) (hx : 0 ≤ x) (hx' : x < 18446744073709551616) (hy : 0 ≤ y) (hy' : y < 18446744073709551616) (w : World) : (callFunc 179 #[.int .u64 x, .int .u64 y, .int .u64 0]).run Tryz.prog w =
    .ok (.value (.tuple #[.int .u64 ((x + y) % 18446744073709551616), .int .u64 ((x + y) / 18446744073709551616)])) w := by
  simpa using add64 x y 0 hx hx' hy hy' (Int.le_refl 0) (by decide) w
def TotRel (w : World) (l : List Int) (hv lv iv : Value) (wr : World) : Prop :=
  ∃ k : Nat, k ≤ l.length ∧ iv = .int .i64 k ∧ hv = .int .u64 ((total (l.take k) / 18446744073709551616) % 18446744073709551616) ∧ lv = .int .u64 (total (l.take k) % 18446744073709551616) ∧ wr = w

set_option maxHeartbeats 1000000 in
theorem total_any (F : Nat → Prop) (A : Option Addr) (c : Nat) (l : List Int) (w : World) (hr : Rd w F 1 A l.length (is_ l)) (hI : ∀ x ∈ l, In64 x) (hl : l.length ≤ 1000000) :
    Calls Tryz.prog 173 #[.slice A l.length c] w fun e w' => e = .returned (two64 (total l)) ∧ w = w' := by
  have HR := Lib.hid hr
  have HI := Lib.hid hI
  clear hr hI
  go_enter Tryz.func173, Tryz.ntmps173
  go_wp2
  go_loopw [4, 5, 11] (fun hv lv iv wr => TotRel w l hv lv iv wr) (fun _ _ iv _ => l.length - (intOf iv).toNat)
  case atStart => exact ⟨0, Nat.zero_le _, rfl, rfl, rfl, rfl⟩
  case round =>
    obtain ⟨k, hk, rfl, rfl, rfl, rfl⟩ := hrel
    by_cases hlt : k < l.length
    · obtain ⟨ad, u, rfl, _, hx, hc⟩ := HR.out.at_ hlt
      rw [is_get l k hlt] at hx
      injection hx with hx
      subst hx
      have htk : l.take (k + 1) = l.take k ++ [l[k]] := List.take_succ_eq_append_getElem hlt
      have hts : total (l.take (k + 1)) = total (l.take k) + l[k] := by rw [htk, total_append]; simp [total_cons, total_nil]
      have HT := Lib.hid hts
      have HX := Lib.hid (HI.out l[k] (List.getElem_mem hlt))
      clear htk hts
      generalize l[k] = x at *
      generalize total (l.take k) = S at *
      have hx := HX.out
      unfold In64 at hx
      obtain ⟨xm, hxm⟩ : ∃ xm, xm = IntKind.u64.wrap x := ⟨_, rfl⟩
      have hxw : xm = x % 18446744073709551616 := by rw [hxm, IntKind.wrap_u64]
      obtain ⟨xh, hxh⟩ : ∃ xh, xh = IntKind.u64.wrap (x / 9223372036854775808) := ⟨_, rfl⟩
      have hxhw : xh = (x / 9223372036854775808) % 18446744073709551616 := by rw [hxh, IntKind.wrap_u64]
      obtain ⟨lo, hlo⟩ : ∃ lo, lo = S % 18446744073709551616 := ⟨_, rfl⟩
      obtain ⟨hi, hhi⟩ : ∃ hi, hi = (S / 18446744073709551616) % 18446744073709551616 := ⟨_, rfl⟩
      rw [← hlo, ← hhi]
      have A1 := fun W => add64_0 lo xm (by omega) (by omega) (by omega) (by omega) W
      have A2 := fun W => add64 hi xh ((lo + xm) / 18446744073709551616) (by omega) (by omega) (by omega) (by omega) (by omega) (by omega) W
      have HEND : Hid (TotRel wr l (.int .u64 ((hi + xh + (lo + xm) / 18446744073709551616) % 18446744073709551616)) (.int .u64 ((lo + xm) % 18446744073709551616)) (.int .i64 ((k : Int) + 1)) wr) := by
        refine ⟨k + 1, by omega, by go_num, ?_, ?_, rfl⟩
        · rw [HT.out]
          congr 1
          omega
        · rw [HT.out]
          congr 1
          omega
      rw [hxm] at A1 A2 HEND
      rw [hxh] at A2 HEND
      clear hlo hhi hxw hxhw hx hxm hxh HT
      go_wp2
      exact ⟨HEND.out, by simp [intOf]; omega⟩
    · obtain rfl : k = l.length := by omega
      rw [List.take_length]
      have hb := total_bound l HI.out
      have hw1 := wrap64_eq ((total l / 18446744073709551616) % 18446744073709551616)
      have hw2 := wrap64_eq (total l % 18446744073709551616)
      have HS : Hid (∃ S, S = total l) := ⟨_, rfl⟩
      obtain ⟨S, hS⟩ := HS.out
      rw [← hS] at hb hw1 hw2 ⊢
      have q1 : -1000000 ≤ S / 18446744073709551616 ∧ S / 18446744073709551616 ≤ 1000000 := by omega
      have q2 : wrap64 (S / 18446744073709551616 % 18446744073709551616) = S / 18446744073709551616 := by omega
      have q3 : wrap64 (S % 18446744073709551616) / 9223372036854775808 = if S % 18446744073709551616 < 9223372036854775808 then 0 else -1 := by
        split <;> omega
      by_cases hin : In64 S
      · have e1 : wrap64 (S % 18446744073709551616) = S := by unfold In64 at hin; omega
        have e2 : (wrap64 (S / 18446744073709551616 % 18446744073709551616) != wrap64 (S % 18446744073709551616) / 9223372036854775808) = false := by
          rw [bne_eq_false_iff_eq, q2, q3]
          unfold In64 at hin
          split <;> omega
        have HIN := Lib.hid hin
        have HSS := Lib.hid hS
        have E1 := Lib.hid e1
        clear hin hb hw1 hw2 hS e1 q1 q2 q3
        go_wp2
        go_ret2
        rw [← HSS.out, two64_in HIN.out]
        refine ⟨?_, rfl⟩
        have := E1.out
        simp [this]
      · have e2 : (wrap64 (S / 18446744073709551616 % 18446744073709551616) != wrap64 (S % 18446744073709551616) / 9223372036854775808) = true := by
          rw [bne_iff_ne, q2, q3]
          unfold In64 at hin
          split <;> omega
        have HIN := Lib.hid hin
        have HSS := Lib.hid hS
        clear hin hb hw1 hw2 hS q1 q2 q3
        go_wp2
        go_ret2
        rw [← HSS.out, two64_out HIN.out]
        exact ⟨rfl, rfl⟩
end Go.Proofs.YtjbeaoabhhaiiaaGreat
