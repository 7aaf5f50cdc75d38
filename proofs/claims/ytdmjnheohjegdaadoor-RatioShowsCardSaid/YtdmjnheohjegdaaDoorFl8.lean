/- The laws' walks RatioOnce, RatioShows. -/
import Derived.Test.YtdmjnheohjegdaaDoorFlM5
import Derived.Test.YtdmjnheohjegdaaDoorFl7
namespace Go.Proofs.YtdmjnheohjegdaaDoor
open Go.RowKit Go.My Go.My.Fl
set_option linter.unusedSimpArgs false
set_option linter.unusedVariables false

set_option maxHeartbeats 2000000 in
theorem ratioOnce_walk (a : Int) (w : World) (ha : -9223372036854775808 ≤ a ∧ a ≤ 9223372036854775807) (ht : Tab w) : Calls Tryd.prog 5 #[.int .i64 a] w (RetTrue w) := by
  have HT := Lib.hid ht
  have HL := Lib.hid fun W h => lives19 W h
  obtain ⟨m, hm⟩ : ∃ m, m = a.tmod 4503599627370496 := ⟨_, rfl⟩
  have hmb : m.natAbs < 4503599627370496 := by rw [hm, Int.natAbs_tmod]; exact Nat.mod_lt _ (by decide)
  obtain ⟨h, q, d, t1, t2, t3, t4, t5, t6, k1, k2, k3, k4⟩ := once_math m hmb
  have H1 := Lib.hid fun W => times_any m 4607182418800017408 W
  have H2 := Lib.hid fun W => times_any m 13830554455654793216 W
  have H3 := Lib.hid fun W => times_any m 0 W
  have H4 := Lib.hid fun W => times_any m 4602678819172646912 W
  have H5 := Lib.hid fun W => times_any h 4602678819172646912 W
  have H6 := Lib.hid fun W => times_any m 4598175219545276416 W
  rw [t1] at H1
  rw [t2] at H2
  rw [t3] at H3
  rw [t4] at H4
  rw [t5] at H5
  rw [t6] at H6
  simp only [rndV] at H1 H2 H3 H4 H5 H6
  obtain ⟨r, d1, d2⟩ := div_one m hmb
  have H7 : Hid (∀ W, Calls Tryd.prog 13 #[.int .i64 m, .int .i64 1] W fun e w' => e = .returned (.float .f64 r) ∧ Fr No W w') := Lib.hid (fun W => by
    refine (of_any m 1 W).mono ?_
    rintro e w' ⟨r', rfl, hr, hw, _⟩
    rw [d1] at hr
    exact ⟨by rw [show r' = r from hr], hw⟩)
  have he := eq_fl d2 (fl_int (n := m) (by rw [pw_53]; omega))
  rw [decide_eq_true rfl] at he
  have hc := fun W => near_fact m W
  have hneg : wrap64 (0 - m) = -m := by have := wrap64_eq (0 - m); omega
  have hneg2 : wrap64 (-m) = -m := by have := wrap64_eq (-m); omega
  have hsub : wrap64 (q - d) = q - d := by have := wrap64_eq (q - d); omega
  have g1 : decide (-1 ≤ q - d) = true := decide_eq_true k1
  have g2 : decide (q - d ≤ 1) = true := decide_eq_true k2
  generalize FloatKind.f64.nearest m = fm at *
  have hm' := hm.symm
  clear t1 t2 t3 t4 t5 t6 k1 k2 k3 k4 d1 d2 hmb hm ht ha
  go_enter Tryd.func5, Tryd.ntmps5
  go_wp2_with fail
  refine (HL.out _ HT.out).mono ?_
  rintro e w1 ⟨rfl, hw1⟩
  go_wp2_with fail
  refine (H1.out _).mono ?_
  rintro e w2 ⟨rfl, hw2⟩
  go_wp2_with fail
  refine (H2.out _).mono ?_
  rintro e w3 ⟨rfl, hw3⟩
  go_wp2_with fail
  refine (H3.out _).mono ?_
  rintro e w4 ⟨rfl, hw4⟩
  go_wp2_with fail
  refine (H4.out _).mono ?_
  rintro e w5 ⟨rfl, hw5⟩
  go_wp2_with fail
  refine (H5.out _).mono ?_
  rintro e w6 ⟨rfl, hw6⟩
  go_wp2_with fail
  refine (H6.out _).mono ?_
  rintro e w7 ⟨rfl, hw7⟩
  go_wp2_with fail
  refine (H7.out _).mono ?_
  rintro e w8 ⟨rfl, hw8⟩
  go_wp2
  go_ret
  exact ⟨rfl, (((((((hw1.trans hw2).trans hw3).trans hw4).trans hw5).trans hw6).trans hw7).trans hw8).belowNo⟩

/-- a text's length -/
theorem textF3_len (n : Int) : 5 ≤ (textF n 3).length := by
  unfold textF textD
  have hw : withF 3 = 3 := by unfold withF; rfl
  rw [hw]
  have hl := pad_length 3 (Lib.decDigits n.natAbs)
  have : 5 ≤ (pointF 3 (padF 3 (Lib.decDigits n.natAbs))).length := by
    unfold pointF
    rw [if_neg (by omega)]
    simp only [List.length_append, List.length_cons, List.length_take, List.length_drop]
    omega
  rw [List.length_append]; omega
theorem tl (l : List UInt8) : (⟨l.toArray⟩ : ByteArray).toList = l := by rw [ByteArray.toList_eq]
theorem not_short (l : List UInt8) (m : List UInt8) (h : 5 ≤ l.length) (hm : m.length ≤ 4) : decide ((⟨l.toArray⟩ : ByteArray).toList = m) = false := by
  rw [tl, decide_eq_false_iff_not]
  rintro rfl
  omega
theorem lit_is (l m : List UInt8) : decide ((⟨l.toArray⟩ : ByteArray).toList = m) = decide (l = m) := by rw [tl]

/-- what is asked of a number's text: the text, what x - x is, and whether x is a number -/
structure ShowsOk (x : Nat) (t : ByteArray) : Prop where
  nan : decide (t.toList = [110, 97, 110]) = (FloatKind.f64.format.order x x != some .eq)
  len : (2 : Int) < (t.size : Int)
  sub : ∀ y, OpR (Ieee.double.sub x x) y → ((FloatKind.f64.format.order y y == some .eq) || (decide (t.toList = [110, 97, 110]) || decide (t.toList = [105, 110, 102]) || decide (t.toList = [45, 105, 110, 102]) || decide (t.toList = [102, 97, 114]))) = true
theorem shows_ok (x : Nat) : ShowsOk x (showB x) := by
  unfold showB
  rcases kinds x with ⟨v, h⟩ | ⟨s, h⟩ | h
  · rw [nanB_fl h, infS_fl h, infS_fl h]
    simp only [Bool.false_eq_true, if_false]
    have hn : (FloatKind.f64.format.order x x != some .eq) = false := neq_fl h
    have hsub : ∀ y, OpR (Ieee.double.sub x x) y → (FloatKind.f64.format.order y y == some .eq) = true := by
      intro y hy
      obtain ⟨r, e, hr⟩ := h.sub h
      rw [e] at hy
      rw [Int.sub_self] at hr
      rw [show y = r from hy, eq_fl (rn_zero hr) (rn_zero hr)]
      exact decide_eq_true rfl
    cases thO x with
    | none => exact ⟨by rw [hn, lit_is [102, 97, 114]]; decide, by decide, fun y hy => by rw [hsub y hy]; rfl⟩
    | some n =>
      have hl := textF3_len n
      refine ⟨?_, ?_, fun y hy => by rw [hsub y hy]; rfl⟩
      · rw [hn]; exact not_short _ [110, 97, 110] hl (by decide)
      · show (2 : Int) < (((textF n 3).toArray.size : Nat) : Int)
        rw [List.size_toArray]; omega
  · rw [nanB_inf h, infS_inf h, infS_inf h]
    have hn : (FloatKind.f64.format.order x x != some .eq) = false := nanB_inf h
    cases s
    · simp only [Bool.false_eq_true, if_false, beq_self_eq_true, if_true]
      exact ⟨by rw [hn, lit_is [105, 110, 102]]; decide, by decide, fun y hy => by rw [Bool.or_eq_true, lit_is [105, 110, 102], lit_is [105, 110, 102], lit_is [105, 110, 102], lit_is [105, 110, 102]]; exact .inr (by decide)⟩
    · simp only [Bool.false_eq_true, if_false, beq_self_eq_true, if_true, show (true == false) = false from rfl]
      exact ⟨by rw [hn, lit_is [45, 105, 110, 102]]; decide, by decide, fun y hy => by rw [Bool.or_eq_true, lit_is [45, 105, 110, 102], lit_is [45, 105, 110, 102], lit_is [45, 105, 110, 102], lit_is [45, 105, 110, 102]]; exact .inr (by decide)⟩
  · rw [nanB_nan h]
    have hn : (FloatKind.f64.format.order x x != some .eq) = true := nanB_nan h
    simp only [if_true]
    exact ⟨by rw [hn, lit_is [110, 97, 110]]; decide, by decide, fun y hy => by rw [Bool.or_eq_true, lit_is [110, 97, 110], lit_is [110, 97, 110], lit_is [110, 97, 110], lit_is [110, 97, 110]]; exact .inr (by decide)⟩

set_option maxHeartbeats 2000000 in
theorem ratioShows_walk (a : Int) (x : Nat) (w : World) (ha : -9223372036854775808 ≤ a ∧ a ≤ 9223372036854775807) (hx : x < 18446744073709551616) (ht : Tab w) : Calls Tryd.prog 8 #[.int .i64 a, .float .f64 x] w (RetTrue w) := by
  have HT := Lib.hid ht
  have HX := Lib.hid hx
  have HL := Lib.hid fun W h => lives19 W h
  obtain ⟨m, hm⟩ : ∃ m, m = a.tmod 1099511627776 := ⟨_, rfl⟩
  have hmb : m.natAbs < 1099511627776 := by rw [hm, Int.natAbs_tmod]; exact Nat.mod_lt _ (by decide)
  obtain ⟨r, v, d1, d2, d3⟩ := shows_math m hmb
  have hr : r < 18446744073709551616 := by
    have := floatBits_wf (op := .quo) (k := .f64) (x := FloatKind.f64.nearest m) (y := 4652007308841189376) (r := r) d1
    simpa [Lit.wf] using this
  have hs : showB r = ⟨(textF m 3).toArray⟩ := by
    unfold showB thO
    rw [nanB_fl d2, infS_fl d2, infS_fl d2, d3]
    rfl
  have H1 := Lib.hid fun W (h : Tab W) => show_any r hr W h
  rw [hs] at H1
  have H2 := Lib.hid fun W (h : Tab W) => show_any x hx W h
  have H3 := Lib.hid fun W => reftext_any m 3 W (by unfold In64; omega)
  have hk := shows_ok x
  have hq := fun W => op_fact .quo _ _ r d1 W
  have hc := fun W => near_fact m W
  generalize FloatKind.f64.nearest m = fm at *
  generalize showB x = t at *
  have hm' := hm.symm
  have k1 := hk.nan
  have k2 := hk.len
  have K3 := Lib.hid hk.sub
  clear hm hmb d1 d2 d3 hr hs hk ht hx ha
  generalize (textF m 3).toArray = tm at *
  go_enter Tryd.func8, Tryd.ntmps8
  go_wp2_with fail
  refine (HL.out _ HT.out).mono ?_
  rintro e w1 ⟨rfl, hw1⟩
  go_wp2_with fail
  refine (H1.out _ (tab_below HT.out hw1.belowNo)).mono ?_
  rintro e w2 ⟨rfl, hw2⟩
  go_wp2_with fail
  refine (H2.out _ (tab_below HT.out (hw1.trans hw2).belowNo)).mono ?_
  rintro e w3 ⟨rfl, hw3⟩
  have o1 := run_op Tryd.prog 22 .sub x x (.inr (.inl rfl)) w3
  have o2 := fv_op .sub x x w3
  have o3 := fw_fr .sub x x (Fr.refl No w3)
  rw [show floatBits .sub .f64 x x = Ieee.double.sub x x from rfl] at o2
  have k3 := K3.out _ o2
  generalize fv .sub x x w3 = y at *
  generalize fw .sub x x w3 = w4 at *
  clear o2
  generalize hz : (FloatKind.f64.format.order y y == some .eq) = z at *
  generalize hn1 : decide (t.toList = [110, 97, 110]) = n1 at *
  generalize hn2 : decide (t.toList = [105, 110, 102]) = n2 at *
  generalize hn3 : decide (t.toList = [45, 105, 110, 102]) = n3 at *
  generalize hn4 : decide (t.toList = [102, 97, 114]) = n4 at *
  generalize hn5 : (FloatKind.f64.format.order x x != some .eq) = n5 at *
  subst k1
  have HW := Lib.hid hw1
  have HW2 := Lib.hid ((hw1.trans hw2).trans hw3)
  cases z
  · have k3 : (n1 || n2 || n3 || n4) = true := by simpa using k3
    cases n1 <;> cases n2 <;> cases n3 <;> cases n4
    all_goals first | (exfalso; revert k3; decide) | skip
    all_goals
      clear k3
      simp only [decide_eq_true_eq, decide_eq_false_iff_not] at hn1 hn2 hn3 hn4
      go_wp2_with fail
      refine (H3.out _).mono ?_
      rintro e w5 ⟨rfl, rfl⟩
      go_wp2
      go_ret
      refine ⟨?_, (HW2.out.trans o3).belowNo⟩
      first | rfl | simp [hn1]
  · clear k3
    cases n1 <;> cases n2 <;> cases n3 <;> cases n4
    all_goals
      simp only [decide_eq_true_eq, decide_eq_false_iff_not] at hn1 hn2 hn3 hn4
      go_wp2_with fail
      refine (H3.out _).mono ?_
      rintro e w5 ⟨rfl, rfl⟩
      go_wp2
      go_ret
      refine ⟨?_, (HW2.out.trans o3).belowNo⟩
      first | rfl | simp [hn1]
end Go.Proofs.YtdmjnheohjegdaaDoor
