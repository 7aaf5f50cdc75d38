/- Contracts: lives, Same; the laws' walks RatioTimes, RatioNear. -/
import Derived.Test.YtdmjnheohjegdaaDoorFlM4
import Derived.Test.YtdmjnheohjegdaaDoorFl6
namespace Go.Proofs.YtdmjnheohjegdaaDoor
open Go.RowKit Go.My Go.My.Fl
set_option linter.unusedSimpArgs false
set_option linter.unusedVariables false

theorem t5 : timesO 5 4602678819172646912 = some 2 := by decide +kernel
theorem t7 : timesO 7 4602678819172646912 = some 4 := by decide +kernel
theorem q14 : Ieee.double.div (FloatKind.f64.nearest 1) (FloatKind.f64.nearest 4) = some 4598175219545276416 := by decide +kernel
theorem n11 : nearB 4607182418800017408 4607182418800017408 0 = true := by rw [nearB_self]; decide +kernel

set_option maxHeartbeats 1000000 in
theorem lives19 (w : World) (ht : Tab w) : Calls Tryd.prog 9 #[] w fun e w' => e = .returned (.bool true) ∧ Fr No w w' := by
  have HT := Lib.hid ht
  have H5 : Hid (∀ W, Calls Tryd.prog 10 #[.int .i64 5, .float .f64 4602678819172646912] W fun e w' => e = .returned (.tuple #[.int .i64 2, .int .i64 0]) ∧ Fr No W w') := Lib.hid (fun W => by have := times_any 5 4602678819172646912 W; rw [t5] at this; exact this)
  have H7 : Hid (∀ W, Calls Tryd.prog 10 #[.int .i64 7, .float .f64 4602678819172646912] W fun e w' => e = .returned (.tuple #[.int .i64 4, .int .i64 0]) ∧ Fr No W w') := Lib.hid (fun W => by have := times_any 7 4602678819172646912 W; rw [t7] at this; exact this)
  have HO : Hid (∀ W, Calls Tryd.prog 13 #[.int .i64 1, .int .i64 4] W fun e w' => e = .returned (.float .f64 4598175219545276416) ∧ Fr No W w') := Lib.hid (fun W => by
    refine (of_any 1 4 W).mono ?_
    rintro e w' ⟨r, rfl, hr, hw, _⟩
    rw [q14] at hr
    exact ⟨by rw [show r = 4598175219545276416 from hr], hw⟩)
  have HN : Hid (∀ W, Calls Tryd.prog 16 #[.float .f64 4607182418800017408, .float .f64 4607182418800017408, .float .f64 0] W fun e w' => e = .returned (.bool true) ∧ Fr No W w') := Lib.hid (fun W => by have := near_any 4607182418800017408 4607182418800017408 0 (by decide) (by decide) W; rw [n11] at this; exact this)
  have hq : (FloatKind.f64.format.order 4598175219545276416 4598175219545276416 == some .eq) = true := by decide +kernel
  clear ht
  go_enter Tryd.func9, Tryd.ntmps9
  go_wp2_with fail
  refine (H5.out _).mono ?_
  rintro e w1 ⟨rfl, hw1⟩
  go_wp2_with fail
  refine (H7.out _).mono ?_
  rintro e w2 ⟨rfl, hw2⟩
  go_wp2_with fail
  refine (show_any 4607184670599831093 (by decide) w2 (tab_below HT.out (hw1.trans hw2).belowNo)).mono ?_
  rintro e w3 ⟨rfl, hw3⟩
  go_wp2_with fail
  refine (refshow_any 4607184670599831093 (by decide) w3).mono ?_
  rintro e w4 ⟨rfl, hw4⟩
  generalize showB 4607184670599831093 = sh at *
  go_wp2_with fail
  refine (HO.out _).mono ?_
  rintro e w5 ⟨rfl, hw5⟩
  go_wp2_with fail
  refine (HN.out _).mono ?_
  rintro e w6 ⟨rfl, hw6⟩
  go_wp2
  go_ret
  exact ⟨rfl, ((((hw1.trans hw2).trans hw3).trans hw4).trans hw5).trans hw6⟩

/-- the same bits, or both no numbers -/
theorem same19_any (a b : Nat) (h : a = b ∨ (Nn a ∧ Nn b)) (w : World) : Calls Tryd.prog 12 #[.float .f64 a, .float .f64 b] w fun e w' => e = .returned (.bool true) ∧ Fr No w w' := by
  have h1 := fun W => bits_fact a W
  have h2 := fun W => bits_fact b W
  by_cases c : a = b
  · subst c
    go_enter Tryd.func12, Tryd.ntmps12
    go_wp2
    go_ret
    exact ⟨rfl, Fr.refl _ _⟩
  · have hk := h.resolve_left c
    have h3 : (FloatKind.f64.format.order a a != some .eq) = true := by rw [fmt, ord_nan_l hk.1]; rfl
    have h4 : (FloatKind.f64.format.order b b != some .eq) = true := by rw [fmt, ord_nan_l hk.2]; rfl
    have h5 : ((a : Int) == (b : Int)) = false := by rw [beq_eq_false_iff_ne]; omega
    clear h hk c
    go_enter Tryd.func12, Tryd.ntmps12
    go_wp2
    go_ret
    exact ⟨rfl, Fr.refl _ _⟩

set_option maxHeartbeats 1000000 in
theorem ratioTimes_walk (a b : Int) (x : Nat) (w : World) (ha : -9223372036854775808 ≤ a ∧ a ≤ 9223372036854775807) (hb : -9223372036854775808 ≤ b ∧ b ≤ 9223372036854775807) (hx : x < 18446744073709551616) (ht : Tab w) : Calls Tryd.prog 3 #[.int .i64 a, .int .i64 b, .float .f64 x] w (RetTrue w) := by
  have HT := Lib.hid ht
  have HX := Lib.hid hx
  have HL := Lib.hid fun W h => lives19 W h
  have H1 := Lib.hid fun W => times_any a x W
  have H2 := Lib.hid fun W => reftimes19_any a x W
  obtain ⟨p, q, hpq⟩ : ∃ p q : Int, rndV (timesO a x) = .tuple #[.int .i64 p, .int .i64 q] := by cases timesO a x <;> exact ⟨_, _, rfl⟩
  rw [hpq] at H1 H2
  have H3 := Lib.hid fun W => of_any a b W
  have c1 := fun W => near_fact a W
  have c2 := fun W => near_fact b W
  generalize FloatKind.f64.nearest a = fa at *
  generalize FloatKind.f64.nearest b = fb at *
  clear hpq ht hx ha hb
  go_enter Tryd.func3, Tryd.ntmps3
  go_wp2_with fail
  refine (HL.out _ HT.out).mono ?_
  rintro e w1 ⟨rfl, hw1⟩
  go_wp2_with fail
  refine (H1.out _).mono ?_
  rintro e w2 ⟨rfl, hw2⟩
  go_wp2_with fail
  refine (H2.out _).mono ?_
  rintro e w3 ⟨rfl, hw3⟩
  go_wp2_with fail
  refine (H3.out _).mono ?_
  rintro e w4 ⟨r, rfl, hr, hw4, _⟩
  have o1 := run_op Tryd.prog 22 .quo fa fb (.inr (.inr (.inr rfl))) w4
  have o2 := fv_op .quo fa fb w4
  have o3 := fw_fr .quo fa fb (Fr.refl No w4)
  rw [show floatBits .quo .f64 fa fb = Ieee.double.div fa fb from rfl] at o2
  generalize fv .quo fa fb w4 = r2 at *
  generalize fw .quo fa fb w4 = w5 at *
  have HS : Hid (r = r2 ∨ (Nn r ∧ Nn r2)) := Lib.hid (by
    cases hd : Ieee.double.div fa fb with
    | none => rw [hd] at hr o2; exact .inr ⟨hr, o2⟩
    | some z => rw [hd] at hr o2; exact .inl (Eq.trans (show r = z from hr) (show r2 = z from o2).symm))
  clear hr o2
  go_wp2_with fail
  refine (same19_any r r2 HS.out w5).mono ?_
  rintro e w6 ⟨rfl, hw6⟩
  have HF := Lib.hid ((((((hw1.trans hw2).trans hw3).trans hw4).trans o3).trans hw6))
  go_wp2_with fail
  refine (show_any x HX.out w6 (tab_below HT.out HF.out.belowNo)).mono ?_
  rintro e w7 ⟨rfl, hw7⟩
  go_wp2_with fail
  refine (refshow_any x HX.out w7).mono ?_
  rintro e w8 ⟨rfl, hw8⟩
  generalize showB x = sh at *
  go_wp2
  go_ret
  exact ⟨rfl, ((HF.out.trans hw7).trans hw8).belowNo⟩

set_option maxHeartbeats 1000000 in
theorem ratioNear_walk (a b p : Nat) (w : World) (ha : a < 18446744073709551616) (hb : b < 18446744073709551616) (hp : p < 18446744073709551616) (ht : Tab w) : Calls Tryd.prog 4 #[.float .f64 a, .float .f64 b, .float .f64 p] w (RetTrue w) := by
  have HT := Lib.hid ht
  have HL := Lib.hid fun W h => lives19 W h
  have H1 := Lib.hid fun W => near_any a b p ha hb W
  have H2 := Lib.hid fun W => refnear_any a b p ha hb W
  have H3 := Lib.hid fun W => near_any b a p hb ha W
  have H4 := Lib.hid fun W => near_any a a 0 ha ha W
  have H5 := Lib.hid fun W => near_any a b 0 ha hb W
  rw [nearB_comm b a p] at H3
  rw [nearB_self a] at H4
  have hz := nearB_zero a b
  generalize nearB a b p = n1 at *
  generalize nearB a b 0 = n2 at *
  generalize hq1 : (FloatKind.f64.format.order a a == some .eq) = q1 at *
  clear ht ha hb hp
  cases n2
  · clear hz
    go_enter Tryd.func4, Tryd.ntmps4
    go_wp2_with fail
    refine (HL.out _ HT.out).mono ?_
    rintro e w1 ⟨rfl, hw1⟩
    go_wp2_with fail
    refine (H1.out _).mono ?_
    rintro e w2 ⟨rfl, hw2⟩
    go_wp2_with fail
    refine (H2.out _).mono ?_
    rintro e w3 ⟨rfl, hw3⟩
    go_wp2_with fail
    refine (H1.out _).mono ?_
    rintro e w4 ⟨rfl, hw4⟩
    go_wp2_with fail
    refine (H3.out _).mono ?_
    rintro e w5 ⟨rfl, hw5⟩
    go_wp2_with fail
    refine (H4.out _).mono ?_
    rintro e w6 ⟨rfl, hw6⟩
    go_wp2_with fail
    refine (H5.out _).mono ?_
    rintro e w7 ⟨rfl, hw7⟩
    go_wp2
    go_ret
    exact ⟨rfl, ((((((hw1.trans hw2).trans hw3).trans hw4).trans hw5).trans hw6).trans hw7).belowNo⟩
  · have hz := hz rfl
    go_enter Tryd.func4, Tryd.ntmps4
    go_wp2_with fail
    refine (HL.out _ HT.out).mono ?_
    rintro e w1 ⟨rfl, hw1⟩
    go_wp2_with fail
    refine (H1.out _).mono ?_
    rintro e w2 ⟨rfl, hw2⟩
    go_wp2_with fail
    refine (H2.out _).mono ?_
    rintro e w3 ⟨rfl, hw3⟩
    go_wp2_with fail
    refine (H1.out _).mono ?_
    rintro e w4 ⟨rfl, hw4⟩
    go_wp2_with fail
    refine (H3.out _).mono ?_
    rintro e w5 ⟨rfl, hw5⟩
    go_wp2_with fail
    refine (H4.out _).mono ?_
    rintro e w6 ⟨rfl, hw6⟩
    go_wp2_with fail
    refine (H5.out _).mono ?_
    rintro e w7 ⟨rfl, hw7⟩
    go_wp2
    go_ret
    exact ⟨rfl, ((((((hw1.trans hw2).trans hw3).trans hw4).trans hw5).trans hw6).trans hw7).belowNo⟩
end Go.Proofs.YtdmjnheohjegdaaDoor
