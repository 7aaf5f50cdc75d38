/- Contracts: the document's Round and Times. -/
import Derived.Test.YtdmjnheohjegdaaDoorFl2
import Derived.Test.YtdmjnheohjegdaaDoorFlM2
import Derived.Test.YtdmjnheohjegdaaDoorCoinsMath
namespace Go.Proofs.YtdmjnheohjegdaaDoor
open Go.RowKit Go.My Go.My.Fl
set_option linter.unusedSimpArgs false
set_option linter.unusedVariables false

def refV (o : Option Int) : Value := match o with | some n => .tuple #[.int .i64 n, .bool true] | none => .tuple #[.int .i64 0, .bool false]
theorem fl_52 : Fl 4841369599423283200 (4503599627370496 * U) := fl_const _ _ (by decide) (by decide +kernel)
theorem fl_m52 : Fl 14064741636278059008 (-4503599627370496 * U) := fl_const _ _ (by decide) (by decide +kernel)
theorem le_U {a b : Int} : decide (a * U ≤ b * U) = decide (a ≤ b) := by
  have hU := U_pos
  exact decide_eq_decide.2 ⟨fun h => Int.le_of_mul_le_mul_right h hU, fun h => Int.mul_le_mul_of_nonneg_right h (by omega)⟩
theorem lt_U {a b : Int} : decide (a * U < b * U) = decide (a < b) := by
  have hU := U_pos
  exact decide_eq_decide.2 ⟨fun h => Int.lt_of_mul_lt_mul_right h (by omega), fun h => Int.mul_lt_mul_of_pos_right h hU⟩
theorem fmt : FloatKind.f64.format = Ieee.double := rfl
theorem neq_fl {b : Nat} {v : Int} (h : Fl b v) : (FloatKind.f64.format.order b b != some .eq) = false := by
  have := eq_fl h h
  rw [decide_eq_true rfl] at this
  rw [bne, this]; rfl

theorem refround_nan (b : Nat) (h : Nn b) (w : World) : Calls Tryd.prog 23 #[.float .f64 b] w fun e w' => e = .returned (refV (rndO b)) ∧ w' = w := by
  rw [rndO_nan h]
  have h1 : (FloatKind.f64.format.order b b != some .eq) = true := by rw [fmt, ord_nan_l h]; rfl
  have HE := Lib.hid h
  clear h
  go_enter Tryd.func23, Tryd.ntmps23
  go_wp2
  go_ret2
  exact ⟨rfl, rfl⟩
theorem refround_inf (b : Nat) (s : Bool) (h : If b s) (w : World) : Calls Tryd.prog 23 #[.float .f64 b] w fun e w' => e = .returned (refV (rndO b)) ∧ w' = w := by
  rw [rndO_inf h]
  have h1 : (FloatKind.f64.format.order b b != some .eq) = false := by rw [fmt, ord_inf h h]; cases s <;> rfl
  have h2 : (FloatKind.f64.format.order b 4890909195324358656 == some .gt || FloatKind.f64.format.order b 4890909195324358656 == some .eq) = !s := by rw [fmt, ord_inf_l h fl_p63]; cases s <;> rfl
  have h3 : (FloatKind.f64.format.order b 14114281232179134464 == some .lt) = s := by rw [fmt, ord_inf_l h fl_m63]; cases s <;> rfl
  have HE := Lib.hid h
  clear h
  cases s
  all_goals
    go_enter Tryd.func23, Tryd.ntmps23
    go_wp2
    go_ret2
    exact ⟨rfl, rfl⟩
theorem refround_out (b : Nat) (v : Int) (h : Fl b v) (hv : ¬ (-9223372036854775808 * U ≤ v ∧ v < 9223372036854775808 * U)) (w : World) : Calls Tryd.prog 23 #[.float .f64 b] w fun e w' => e = .returned (refV (rndO b)) ∧ w' = w := by
  have hU := U_pos
  rw [rndO_fl h, if_neg (by
    rintro ⟨k1, k2⟩
    obtain ⟨k, rfl⟩ := big_whole h (by omega)
    rw [rndI_int] at k1 k2
    have a1 := Int.mul_le_mul_of_nonneg_right k1 (show 0 ≤ U by omega)
    have a2 := Int.mul_lt_mul_of_pos_right k2 hU
    exact hv ⟨a1, a2⟩)]
  have h1 := neq_fl h
  have h2 := ge_fl h fl_p63
  have h3 := lt_fl h fl_m63
  have HE := Lib.hid h
  by_cases c : 9223372036854775808 * U ≤ v
  · rw [decide_eq_true c] at h2
    clear h h3 hv c
    go_enter Tryd.func23, Tryd.ntmps23
    go_wp2
    go_ret2
    exact ⟨rfl, rfl⟩
  · rw [decide_eq_false c] at h2
    rw [decide_eq_true (by omega)] at h3
    clear h hv c
    go_enter Tryd.func23, Tryd.ntmps23
    go_wp2
    go_ret2
    exact ⟨rfl, rfl⟩
theorem conv_fact (r : Nat) (n : Int) (h5 : floatToIntVal .f64 r .i64 = some n) (W : World) : (convert 22 2 (.float .f64 r)).run Tryd.prog W = .ok (.int .i64 n) W :=
  run_convert_float_int (P := Tryd.prog) W 22 2 .f64 .i64 r n (by rw [Tryd.underlying22]; rfl) Tryd.underlying2 h5
theorem near_fact (n : Int) (W : World) : (convert 2 22 (.int .i64 n)).run Tryd.prog W = .ok (.float .f64 (FloatKind.f64.nearest n)) W :=
  run_convert_int_float (P := Tryd.prog) W 2 22 .i64 .f64 n (by rw [Tryd.underlying2]; rfl) Tryd.underlying22
theorem op_fact (op : BinOp) (x y r : Nat) (h : floatBits op .f64 x y = some r) (W : World) : (binOp op 22 (.float .f64 x) (.float .f64 y)).run Tryd.prog W = .ok (.float .f64 r) W :=
  run_float_arith W op 22 .f64 x y r h

theorem refround_big (b : Nat) (v : Int) (h : Fl b v) (hv : -9223372036854775808 * U ≤ v ∧ v < 9223372036854775808 * U) (hb : 4503599627370496 * U ≤ v.natAbs) (w : World) : Calls Tryd.prog 23 #[.float .f64 b] w fun e w' => e = .returned (refV (rndO b)) ∧ w' = w := by
  have hU := U_pos
  obtain ⟨k, rfl⟩ := big_whole h hb
  have r1 : inR k := by
    have a1 : decide (-9223372036854775808 * U ≤ k * U) = true := decide_eq_true hv.1
    have a2 : decide (k * U < 9223372036854775808 * U) = true := decide_eq_true hv.2
    rw [le_U] at a1
    rw [lt_U] at a2
    exact ⟨of_decide_eq_true a1, of_decide_eq_true a2⟩
  rw [rndO_fl h, rndI_int, if_pos r1]
  have h1 := neq_fl h
  have h2 := ge_fl h fl_p63
  have h3 := lt_fl h fl_m63
  have h4 := ge_fl h fl_52
  have h5 := le_fl h fl_m52
  have h6 := fun W => conv_fact b k (by have := toInt_fl h (by rw [tdiv_U]; exact r1); rwa [tdiv_U] at this) W
  rw [decide_eq_false (by omega)] at h2
  rw [decide_eq_false (by omega)] at h3
  have HE := Lib.hid h
  by_cases c : 4503599627370496 * U ≤ k * U
  · rw [decide_eq_true c] at h4
    clear h hv hb c h5 r1
    go_enter Tryd.func23, Tryd.ntmps23
    go_wp2
    go_ret2
    exact ⟨rfl, rfl⟩
  · rw [decide_eq_false c] at h4
    rw [decide_eq_true (by omega)] at h5
    clear h hv hb c r1
    go_enter Tryd.func23, Tryd.ntmps23
    go_wp2
    go_ret2
    exact ⟨rfl, rfl⟩

set_option maxHeartbeats 1000000 in
theorem refround_small (b : Nat) (v : Int) (h : Fl b v) (hb : ¬ 4503599627370496 * U ≤ v.natAbs) (w : World) : Calls Tryd.prog 23 #[.float .f64 b] w fun e w' => e = .returned (refV (rndO b)) ∧ w' = w := by
  have hU := U_pos
  have hp := (rndI_parts v).1
  have hn : v.tdiv U < 4503599627370496 ∧ -4503599627370496 < v.tdiv U := by
    have q1 : (v.tdiv U).natAbs * U ≤ v.natAbs := by
      have : (v.tdiv U).natAbs = v.natAbs / pw 2200 := by rw [Int.natAbs_tdiv, natAbs_U]; rfl
      rw [this]
      have := Nat.div_mul_le_self v.natAbs (pw 2200)
      unfold U; rw [← Int.natCast_mul]; omega
    have q2 : ((v.tdiv U).natAbs : Int) < 4503599627370496 := Int.lt_of_mul_lt_mul_right (a := U) (by omega) (by omega)
    omega
  have hbd : -4503599627370497 ≤ rndI v - 1 ∧ rndI v ≤ 4503599627370497 := by
    have hr := rndI_near v
    have a1 : (rndI v) * U < (4503599627370496 + 1) * U := by rw [Int.add_mul]; omega
    have a2 : (-4503599627370496 - 1) * U < (rndI v) * U := by rw [Int.sub_mul]; omega
    have b1 := Int.lt_of_mul_lt_mul_right a1 (by omega)
    have b2 := Int.lt_of_mul_lt_mul_right a2 (by omega)
    omega
  rw [rndO_fl h, if_pos (by unfold inR; omega)]
  have h1 := neq_fl h
  have h2 := ge_fl h fl_p63
  have h3 := lt_fl h fl_m63
  have h4 := ge_fl h fl_52
  have h5 := le_fl h fl_m52
  rw [decide_eq_false (by omega)] at h2 h3 h4 h5
  have h6 := fun W => conv_fact b _ (toInt_fl h (by unfold inR; omega)) W
  have h7 := fun W => near_fact (v.tdiv U) W
  have f1 : Fl (FloatKind.f64.nearest (v.tdiv U)) (v.tdiv U * U) := fl_int (by rw [pw_53]; omega)
  obtain ⟨r1, s1, s2⟩ := h.sub f1
  rw [show v - v.tdiv U * U = v.tmod U by omega] at s2
  have f2 : Fl r1 (v.tmod U) := s2.exact (tmod_rp h).1 (tmod_rp h).2
  have h8 := fun W => op_fact .sub _ _ r1 s1 W
  have h9 := lt_fl f2 fl_zero
  by_cases c : v.tmod U < 0
  · have f3 : Fl (FloatKind.f64.nearest (v.tdiv U - 1)) ((v.tdiv U - 1) * U) := fl_int (by rw [pw_53]; omega)
    obtain ⟨r2, s3, s4⟩ := h.sub f3
    rw [show v - (v.tdiv U - 1) * U = U + v.tmod U by rw [Int.sub_mul]; omega] at s4
    obtain ⟨x, f4, hx⟩ := round_down h c s4
    have h7' := fun W => near_fact (v.tdiv U - 1) W
    have h8' := fun W => op_fact .sub _ _ r2 s3 W
    have g1 := gt_fl f4 fl_half
    have g2 := eq_fl f4 fl_half
    rw [decide_eq_true c] at h9
    rw [hx] at hbd ⊢
    have hw : wrap64 (v.tdiv U - 1) = v.tdiv U - 1 ∧ wrap64 (v.tdiv U) = v.tdiv U := by
      have := wrap64_eq (v.tdiv U - 1)
      have := wrap64_eq (v.tdiv U)
      omega
    obtain ⟨hw1, hw2⟩ := hw
    clear hp hb s1 s2 s3 s4 f1 f2 f3 f4 h hx hbd c hn
    generalize v.tdiv U = n at *
    generalize FloatKind.f64.nearest n = fn at *
    generalize FloatKind.f64.nearest (n - 1) = fm at *
    have HW := Lib.hid hw2
    clear hw2
    obtain ⟨b1, hb1⟩ : ∃ b1, b1 = decide (Hf < x) := ⟨_, rfl⟩
    obtain ⟨b2, hb2⟩ : ∃ b2, b2 = decide (x = Hf) := ⟨_, rfl⟩
    obtain ⟨b3, hb3⟩ : ∃ b3, b3 = ((n - 1).tmod 2 != 0) := ⟨_, rfl⟩
    rw [← hb1] at g1
    rw [← hb2] at g2
    have g3 := hb3.symm
    have HG : Hid (wrap64 n = n ∧ (if Hf < x ∨ x = Hf ∧ (n - 1).tmod 2 ≠ 0 then (1 : Int) else 0) = if (b1 || (b2 && b3)) then 1 else 0) := ⟨HW.out, by
      have : (Hf < x ∨ x = Hf ∧ (n - 1).tmod 2 ≠ 0) ↔ ((b1 || (b2 && b3)) = true) := by rw [hb1, hb2, hb3]; simp
      simp only [this]⟩
    clear hb1 hb2 hb3 HW
    rw [HG.out.2]
    cases b1 <;> cases b2 <;> cases b3
    all_goals
      go_enter Tryd.func23, Tryd.ntmps23
      go_wp2
      go_ret2
      simp only [refV, results, Bool.false_or, Bool.or_false, Bool.true_or, Bool.and_false, Bool.and_true, Bool.false_and, Bool.true_and, if_true, if_false, Bool.false_eq_true, HG.out.1, Int.add_zero, Int.sub_add_cancel]
      refine ⟨?_, ?_⟩ <;> first | rfl | trivial
  · have c0 := round_up c
    have g1 := gt_fl f2 fl_half
    have g2 := eq_fl f2 fl_half
    rw [decide_eq_false c] at h9
    rw [c0] at hbd ⊢
    have hw : wrap64 (v.tdiv U + 1) = v.tdiv U + 1 := by
      have := wrap64_eq (v.tdiv U + 1)
      omega
    clear hp hb s1 s2 f1 f2 h hbd c hn c0
    generalize v.tdiv U = n at *
    generalize v.tmod U = x at *
    generalize FloatKind.f64.nearest n = fn at *
    obtain ⟨b1, hb1⟩ : ∃ b1, b1 = decide (Hf < x) := ⟨_, rfl⟩
    obtain ⟨b2, hb2⟩ : ∃ b2, b2 = decide (x = Hf) := ⟨_, rfl⟩
    obtain ⟨b3, hb3⟩ : ∃ b3, b3 = (n.tmod 2 != 0) := ⟨_, rfl⟩
    rw [← hb1] at g1
    rw [← hb2] at g2
    have g3 := hb3.symm
    have HG : Hid ((if Hf < x ∨ x = Hf ∧ n.tmod 2 ≠ 0 then (1 : Int) else 0) = if (b1 || (b2 && b3)) then 1 else 0) := Lib.hid (by
      have : (Hf < x ∨ x = Hf ∧ n.tmod 2 ≠ 0) ↔ ((b1 || (b2 && b3)) = true) := by rw [hb1, hb2, hb3]; simp
      simp only [this])
    clear hb1 hb2 hb3
    rw [HG.out]
    cases b1 <;> cases b2 <;> cases b3
    all_goals
      go_enter Tryd.func23, Tryd.ntmps23
      go_wp2
      go_ret2
      simp only [refV, results, Bool.false_or, Bool.or_false, Bool.true_or, Bool.and_false, Bool.and_true, Bool.false_and, Bool.true_and, if_true, if_false, Bool.false_eq_true, Int.add_zero]
      refine ⟨?_, ?_⟩ <;> first | rfl | trivial
theorem refround_any (b : Nat) (w : World) : Calls Tryd.prog 23 #[.float .f64 b] w fun e w' => e = .returned (refV (rndO b)) ∧ w' = w := by
  rcases kinds b with ⟨v, h⟩ | ⟨s, h⟩ | h
  · by_cases c : 4503599627370496 * U ≤ v.natAbs
    · by_cases c2 : -9223372036854775808 * U ≤ v ∧ v < 9223372036854775808 * U
      · exact refround_big b v h c2 c w
      · exact refround_out b v h c2 w
    · exact refround_small b v h c w
  · exact refround_inf b s h w
  · exact refround_nan b h w

theorem reftimes19_any (a : Int) (x : Nat) (w : World) : Calls Tryd.prog 11 #[.int .i64 a, .float .f64 x] w fun e w' => e = .returned (rndV (timesO a x)) ∧ Fr No w w' := by
  have h1 := run_op Tryd.prog 22 .mul (FloatKind.f64.nearest a) x (.inr (.inr (.inl rfl))) w
  have h2 := opR_rnd (fv_op .mul (FloatKind.f64.nearest a) x w)
  have h3 := fw_fr .mul (FloatKind.f64.nearest a) x (Fr.refl No w)
  rw [show floatBits .mul .f64 (FloatKind.f64.nearest a) x = Ieee.double.mul (FloatKind.f64.nearest a) x from rfl] at h2
  rw [show (Ieee.double.mul (FloatKind.f64.nearest a) x).bind rndO = timesO a x from rfl] at h2
  generalize timesO a x = o at *
  generalize fv .mul (FloatKind.f64.nearest a) x w = r at *
  generalize fw .mul (FloatKind.f64.nearest a) x w = W1 at *
  have hc := fun W => near_fact a W
  generalize FloatKind.f64.nearest a = fa at *
  have HR := Lib.hid fun W => refround_any r W
  rw [h2] at HR
  cases o with
  | some n =>
    have HR2 : Hid (∀ W, Calls Tryd.prog 23 #[.float .f64 r] W fun e w' => e = .returned (.tuple #[.int .i64 n, .bool true]) ∧ w' = W) := HR
    go_enter Tryd.func11, Tryd.ntmps11
    go_wp2_with fail
    refine (HR2.out _).mono ?_
    rintro e w2 ⟨rfl, rfl⟩
    go_wp2
    go_ret2
    exact ⟨rfl, h3⟩
  | none =>
    have HR2 : Hid (∀ W, Calls Tryd.prog 23 #[.float .f64 r] W fun e w' => e = .returned (.tuple #[.int .i64 0, .bool false]) ∧ w' = W) := HR
    go_enter Tryd.func11, Tryd.ntmps11
    go_wp2_with fail
    refine (HR2.out _).mono ?_
    rintro e w2 ⟨rfl, rfl⟩
    go_wp2
    go_ret2
    exact ⟨rfl, h3⟩
end Go.Proofs.YtdmjnheohjegdaaDoor
