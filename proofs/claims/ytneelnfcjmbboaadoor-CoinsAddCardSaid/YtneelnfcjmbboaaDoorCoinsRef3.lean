/- Contracts of the document's own answers for coins: Times. -/
import Derived.Test.YtneelnfcjmbboaaDoorCoinsRef2
namespace Go.Proofs.YtneelnfcjmbboaaDoor
open Go.RowKit Go.My
set_option linter.unusedSimpArgs false
set_option linter.unusedVariables false

theorem wide_form (x : Int) : ∃ hi lo, wideV x = .agg #[.int .i64 hi, .int .u64 lo] ∧ wideC x = #[.int .i64 hi, .int .u64 lo] := ⟨_, _, rfl, rfl⟩
def TimRel (w : World) (B2 : Nat) (p : Int) (r : Value) (wr : World) : Prop :=
  ∃ (n : Nat) (x y : Int), r = .int .u64 (n : Int) ∧ n < 18446744073709551616 ∧ x + y * n = p ∧
    Blk wr w.heap.size 46 (wideC x) ∧ Blk wr B2 46 (wideC y) ∧ Below w.heap.size w wr
theorem tim_odd (x y p : Int) (n : Nat) (h : x + y * n = p) (ho : n % 2 = 1) : (x + y) + (y + y) * ((n / 2 : Nat) : Int) = p := by
  obtain ⟨k, rfl⟩ : ∃ k, n = 2 * k + 1 := ⟨n / 2, by omega⟩
  have e : (2 * k + 1) / 2 = k := by omega
  rw [e]
  have h1 : ((2 * k + 1 : Nat) : Int) = 2 * (k : Int) + 1 := by omega
  rw [h1, Int.mul_add, Int.mul_one] at h
  rw [Int.add_mul]
  have h2 : y * (2 * (k : Int)) = y * k + y * k := by rw [Int.two_mul, Int.mul_add]
  omega
theorem tim_even (x y p : Int) (n : Nat) (h : x + y * n = p) (ho : ¬ n % 2 = 1) : x + (y + y) * ((n / 2 : Nat) : Int) = p := by
  obtain ⟨k, rfl⟩ : ∃ k, n = 2 * k := ⟨n / 2, by omega⟩
  have e : (2 * k) / 2 = k := by omega
  rw [e]
  have h1 : ((2 * k : Nat) : Int) = 2 * (k : Int) := by omega
  rw [h1] at h
  rw [Int.add_mul]
  have h2 : y * (2 * (k : Int)) = y * k + y * k := by rw [Int.two_mul, Int.mul_add]
  omega
theorem mul_bd (a b : Int) (ha : In64 a) (hb : In64 b) : -170141183460469231731687303715884105728 ≤ a * b ∧ a * b < 170141183460469231731687303715884105728 := by
  have h := mul_abs a b
  have h1 : a.natAbs ≤ 9223372036854775808 := by unfold In64 at ha; omega
  have h2 : b.natAbs ≤ 9223372036854775808 := by unfold In64 at hb; omega
  have h3 : a.natAbs * b.natAbs ≤ 9223372036854775808 * 9223372036854775808 := Nat.mul_le_mul h1 h2
  rw [h]
  split <;> omega

set_option maxHeartbeats 4000000 in
theorem reftimes_any (a b : Int) (w : World) (ha : In64 a) (hb : In64 b) : Calls Tryd.prog 17 #[.int .i64 a, .int .i64 b] w fun e w' => e = .returned (two64 (a * b)) ∧ Below w.heap.size w w' := by
  have hof := Lib.hid fun W => of_any a W ha
  have hsum := Lib.hid fun W => sumw_any (a * b) W (mul_bd a b ha hb)
  have hmin : Hid (b < 0 → ∀ W, Calls Tryd.prog 32 #[wideV (a * b.natAbs)] W fun e w' => e = .returned (wideV (a * b)) ∧ Below W.heap.size W w') := fun hneg W => by
    have h := minus_any (a * b.natAbs) W
    have e : -(a * (b.natAbs : Int)) = a * b := by
      rw [show (b.natAbs : Int) = -b by omega, Int.mul_neg, Int.neg_neg]
    rwa [e] at h
  have hpos : Hid (¬ b < 0 → a * (b.natAbs : Int) = a * b) := fun h => by rw [show (b.natAbs : Int) = b by omega]
  have hw1 : b < 0 → IntKind.u64.wrap (-(IntKind.u64.wrap b)) = (b.natAbs : Int) := fun h => by
    unfold In64 at hb
    rw [IntKind.wrap_u64, IntKind.wrap_u64]; omega
  have hw2 : ¬ b < 0 → IntKind.u64.wrap b = (b.natAbs : Int) := fun h => by
    unfold In64 at hb
    rw [IntKind.wrap_u64]; omega
  have hm64 : Hid (b.natAbs < 18446744073709551616) := by unfold In64 at hb; show _ < _; omega
  unfold two64 at hsum ⊢
  generalize sumV (a * b) = v9 at *
  generalize ((sumN (a * b) : Nat) : Int) = n9 at *
  generalize hmm : b.natAbs = m at *
  clear hmm ha hb
  obtain ⟨ha0, hl0, hWa, hCa⟩ := wide_form a
  rw [hWa] at hof
  by_cases hneg : b < 0
  · have hw3 := hw1 hneg
    have HM := Lib.hid (hmin.out hneg)
    clear hw1 hw2 hmin hpos
    go_enter Tryd.func17, Tryd.ntmps17
    go_wp2_with (go_at_call 31; refine (hof.out _).mono ?_; rintro e w1 ⟨rfl, hb1⟩)
    have hs1 : w.heap.size + 1 ≤ w1.heap.size := by have := hb1.size; simpa using this
    have hbw : Below w.heap.size w w1 := ((Below.refl _ _).alloc (Nat.le_refl _) _).trans (hb1.mono (by simp))
    have hst : TimRel w w1.heap.size (a * m) (.int .u64 (m : Int)) (w1.alloc (.cells #[.int .i64 ha0, .int .u64 hl0] 46)) := by
      refine ⟨m, 0, a, rfl, hm64.out, by simp, ?_, ?_, hbw.alloc (by omega) _⟩
      · have h : Blk (w.alloc (.cells #[.int .i64 0, .int .u64 0] 46)) w.heap.size 46 #[.int .i64 0, .int .u64 0] := Blk.new _ _ _
        have h2 := (h.below hb1 (by simp)).alloc (.cells #[.int .i64 ha0, .int .u64 hl0] 46)
        rwa [wideC_zero]
      · rw [hCa]
        exact Blk.new _ _ _
    have hne : ¬ w1.heap.size = w.heap.size := by omega
    have hne2 : ¬ w.heap.size = w1.heap.size := by omega
    clear hb1 hbw hWa hCa hof hw3
    go_loopw [9] (fun r wr => TimRel w w1.heap.size (a * m) r wr) (fun r _ => (intOf r).toNat)
    case atStart => exact hst
    case round =>
      clear hst
      obtain ⟨n, x, y, rfl, hn64, hxy, hblk1, hblk2, hbel⟩ := hrel
      obtain ⟨hx, lx, hWx, hCx⟩ := wide_form x
      obtain ⟨hy, ly, hWy, hCy⟩ := wide_form y
      obtain ⟨hx2, lx2, hWx2, hCx2⟩ := wide_form (x + y)
      obtain ⟨hy2, ly2, hWy2, hCy2⟩ := wide_form (y + y)
      rw [hCx] at hblk1
      rw [hCy] at hblk2
      have HP1 := Lib.hid fun W => plus_any x y W
      have HP2 := Lib.hid fun W => plus_any y y W
      rw [hWx, hWy, hWx2] at HP1
      rw [hWy, hWy2] at HP2
      have HC2 := Lib.hid hCx2
      have HC4 := Lib.hid hCy2
      have HCX := Lib.hid hCx
      have HXY := Lib.hid hxy
      clear hWx2 hWy2 hCx2 hCy2 hCx hCy hWy
      have hl1 := hblk1.lt
      have hl2 := hblk2.lt
      by_cases h0 : n = 0
      · subst h0
        have hx0 : x = a * m := by simpa using hxy
        subst hx0
        have d0 := hblk1.cell 0
        have d1 := hblk1.cell 1
        have f0 := hblk1.frozen 0
        have f1 := hblk1.frozen 1
        simp only [List.getElem?_toArray, List.getElem?_cons_zero, List.getElem?_cons_succ] at d0 d1
        clear hxy HP1 HP2 HC2 HC4 HCX HXY hblk2
        obtain ⟨hr, lr, hWr, hCr⟩ := wide_form (a * b)
        rw [hWr] at HM hsum
        rw [hWx] at HM
        clear hWx hWr hCr
        go_wp2_with fail
        refine (HM.out _).mono ?_
        rintro e w7 ⟨rfl, hb7⟩
        have hk7 := hblk1.below hb7 hl1
        have hbel7 := hbel.trans (hb7.mono hbel.size)
        clear d0 d1 f0 f1
        have d0 := hk7.cell 0
        have d1 := hk7.cell 1
        have f0 := hk7.frozen 0
        have f1 := hk7.frozen 1
        simp only [List.getElem?_toArray, List.getElem?_cons_zero, List.getElem?_cons_succ] at d0 d1
        go_wp2_with fail
        refine (hsum.out _).mono ?_
        rintro e w8 ⟨rfl, hb8⟩
        have hbel8 := below_fresh ((hbel7.setCell (p := ⟨w.heap.size, 0, none⟩) (Nat.le_refl _) (.int .i64 hr)).setCell (p := ⟨w.heap.size, 1, none⟩) (Nat.le_refl _) (.int .u64 lr)) hb8 ((hbel7.setCell (p := ⟨w.heap.size, 0, none⟩) (Nat.le_refl _) (.int .i64 hr)).setCell (p := ⟨w.heap.size, 1, none⟩) (Nat.le_refl _) (.int .u64 lr)).size
        go_wp2
        go_ret2
        exact ⟨rfl, hbel8⟩
      · have hpos : (0 : Int) < n := by omega
        clear hxy
        by_cases ho : n % 2 = 1
        · have ho' : (n : Int).tmod 2 = 1 := by rw [Int.tmod_eq_emod_of_nonneg (by omega)]; omega
          have hq : (n : Int).tdiv 2 = ((n / 2 : Nat) : Int) := by rw [Int.tdiv_eq_ediv_of_nonneg (by omega)]; omega
          have d0 := hblk1.cell 0
          have d1 := hblk1.cell 1
          have d2 := hblk2.cell 0
          have d3 := hblk2.cell 1
          simp only [List.getElem?_toArray, List.getElem?_cons_zero, List.getElem?_cons_succ] at d0 d1 d2 d3
          go_wp2_with fail
          refine (HP1.out _).mono ?_
          rintro e w3 ⟨rfl, hb3⟩
          have hk1 := hblk1.below hb3 hl1
          have hk2 := hblk2.below hb3 hl2
          have hbel3 := hbel.trans (hb3.mono hbel.size)
          clear d0 d1 d2 d3 hblk1 hblk2 HP1
          have d0 := hk1.cell 0
          have d1 := hk1.cell 1
          have d2 := hk2.cell 0
          have d3 := hk2.cell 1
          have f0 := hk1.frozen 0
          have f1 := hk1.frozen 1
          simp only [List.getElem?_toArray, List.getElem?_cons_zero, List.getElem?_cons_succ] at d0 d1 d2 d3
          go_upto_region 11 with (fail)
          have hk1' := (hk1.set_ 0 (.int .i64 hx2)).set_ 1 (.int .u64 lx2)
          have hk2' := (hk2.far (p := ⟨w.heap.size, 0, none⟩) hne (.int .i64 hx2)).far (p := ⟨w.heap.size, 1, none⟩) hne (.int .u64 lx2)
          have hbel4 := (hbel3.setCell (p := ⟨w.heap.size, 0, none⟩) (Nat.le_refl _) (.int .i64 hx2)).setCell (p := ⟨w.heap.size, 1, none⟩) (Nat.le_refl _) (.int .u64 lx2)
          clear d0 d1 d2 d3 f0 f1 hk1 hk2
          generalize (w3.setCell ⟨w.heap.size, 0, none⟩ (.int .i64 hx2)).setCell ⟨w.heap.size, 1, none⟩ (.int .u64 lx2) = w4 at *
          have hl3 := hk1'.lt
          have hl4 := hk2'.lt
          have d2 := hk2'.cell 0
          have d3 := hk2'.cell 1
          simp only [List.getElem?_toArray, List.getElem?_cons_zero, List.getElem?_cons_succ] at d2 d3
          go_wp2_with fail
          refine (HP2.out _).mono ?_
          rintro e w5 ⟨rfl, hb5⟩
          have hk3 := hk1'.below hb5 hl3
          have hk4 := hk2'.below hb5 hl4
          have hbel5 := hbel4.trans (hb5.mono hbel4.size)
          clear d2 d3
          have d2 := hk4.cell 0
          have d3 := hk4.cell 1
          have f2 := hk4.frozen 0
          have f3 := hk4.frozen 1
          simp only [List.getElem?_toArray, List.getElem?_cons_zero, List.getElem?_cons_succ] at d2 d3
          go_wp2
          go_roundw
          case rel =>
            refine ⟨n / 2, x + y, y + y, by go_num, by omega, tim_odd x y _ n HXY.out ho, ?_, ?_, (hbel5.setCell (Nat.le_of_succ_le hs1) _).setCell (Nat.le_of_succ_le hs1) _⟩
            · rw [HC2.out]
              exact (hk3.far hne2 _).far hne2 _
            · rw [HC4.out]
              exact (hk4.set_ 0 (.int .i64 hy2)).set_ 1 (.int .u64 ly2)
          case measure => simp [intOf]; omega
        · have ho' : ¬ (n : Int).tmod 2 = 1 := by rw [Int.tmod_eq_emod_of_nonneg (by omega)]; omega
          have ho2 : (n : Int).tmod 2 = 0 := by rw [Int.tmod_eq_emod_of_nonneg (by omega)]; omega
          have hq : (n : Int).tdiv 2 = ((n / 2 : Nat) : Int) := by rw [Int.tdiv_eq_ediv_of_nonneg (by omega)]; omega
          have d2 := hblk2.cell 0
          have d3 := hblk2.cell 1
          simp only [List.getElem?_toArray, List.getElem?_cons_zero, List.getElem?_cons_succ] at d2 d3
          clear HP1
          go_wp2_with fail
          refine (HP2.out _).mono ?_
          rintro e w5 ⟨rfl, hb5⟩
          have hk3 := hblk1.below hb5 hl1
          have hk4 := hblk2.below hb5 hl2
          have hbel5 := hbel.trans (hb5.mono hbel.size)
          clear d2 d3
          have d2 := hk4.cell 0
          have d3 := hk4.cell 1
          have f2 := hk4.frozen 0
          have f3 := hk4.frozen 1
          simp only [List.getElem?_toArray, List.getElem?_cons_zero, List.getElem?_cons_succ] at d2 d3
          go_wp2
          go_roundw
          case rel =>
            refine ⟨n / 2, x, y + y, by go_num, by omega, tim_even x y _ n HXY.out ho, ?_, ?_, (hbel5.setCell (Nat.le_of_succ_le hs1) _).setCell (Nat.le_of_succ_le hs1) _⟩
            · rw [HCX.out]
              exact (hk3.far hne2 _).far hne2 _
            · rw [HC4.out]
              exact (hk4.set_ 0 (.int .i64 hy2)).set_ 1 (.int .u64 ly2)
          case measure => simp [intOf]; omega
  · have hw3 := hw2 hneg
    have HM := Lib.hid (hpos.out hneg)
    clear hw1 hw2 hmin hpos
    go_enter Tryd.func17, Tryd.ntmps17
    go_wp2_with (go_at_call 31; refine (hof.out _).mono ?_; rintro e w1 ⟨rfl, hb1⟩)
    have hs1 : w.heap.size + 1 ≤ w1.heap.size := by have := hb1.size; simpa using this
    have hbw : Below w.heap.size w w1 := ((Below.refl _ _).alloc (Nat.le_refl _) _).trans (hb1.mono (by simp))
    have hst : TimRel w w1.heap.size (a * m) (.int .u64 (m : Int)) (w1.alloc (.cells #[.int .i64 ha0, .int .u64 hl0] 46)) := by
      refine ⟨m, 0, a, rfl, hm64.out, by simp, ?_, ?_, hbw.alloc (by omega) _⟩
      · have h : Blk (w.alloc (.cells #[.int .i64 0, .int .u64 0] 46)) w.heap.size 46 #[.int .i64 0, .int .u64 0] := Blk.new _ _ _
        have h2 := (h.below hb1 (by simp)).alloc (.cells #[.int .i64 ha0, .int .u64 hl0] 46)
        rwa [wideC_zero]
      · rw [hCa]
        exact Blk.new _ _ _
    have hne : ¬ w1.heap.size = w.heap.size := by omega
    have hne2 : ¬ w.heap.size = w1.heap.size := by omega
    clear hb1 hbw hWa hCa hof hw3
    go_loopw [9] (fun r wr => TimRel w w1.heap.size (a * m) r wr) (fun r _ => (intOf r).toNat)
    case atStart => exact hst
    case round =>
      clear hst
      obtain ⟨n, x, y, rfl, hn64, hxy, hblk1, hblk2, hbel⟩ := hrel
      obtain ⟨hx, lx, hWx, hCx⟩ := wide_form x
      obtain ⟨hy, ly, hWy, hCy⟩ := wide_form y
      obtain ⟨hx2, lx2, hWx2, hCx2⟩ := wide_form (x + y)
      obtain ⟨hy2, ly2, hWy2, hCy2⟩ := wide_form (y + y)
      rw [hCx] at hblk1
      rw [hCy] at hblk2
      have HP1 := Lib.hid fun W => plus_any x y W
      have HP2 := Lib.hid fun W => plus_any y y W
      rw [hWx, hWy, hWx2] at HP1
      rw [hWy, hWy2] at HP2
      have HC2 := Lib.hid hCx2
      have HC4 := Lib.hid hCy2
      have HCX := Lib.hid hCx
      have HXY := Lib.hid hxy
      clear hWx2 hWy2 hCx2 hCy2 hCx hCy hWy
      have hl1 := hblk1.lt
      have hl2 := hblk2.lt
      by_cases h0 : n = 0
      · subst h0
        have hx0 : x = a * m := by simpa using hxy
        subst hx0
        have d0 := hblk1.cell 0
        have d1 := hblk1.cell 1
        have f0 := hblk1.frozen 0
        have f1 := hblk1.frozen 1
        simp only [List.getElem?_toArray, List.getElem?_cons_zero, List.getElem?_cons_succ] at d0 d1
        clear hxy HP1 HP2 HC2 HC4 HCX HXY hblk2
        rw [← HM.out, hWx] at hsum
        clear hWx
        go_wp2_with fail
        refine (hsum.out _).mono ?_
        rintro e w8 ⟨rfl, hb8⟩
        have hbel8 := below_fresh hbel hb8 hbel.size
        go_wp2
        go_ret2
        exact ⟨rfl, hbel8⟩
      · have hpos : (0 : Int) < n := by omega
        clear hxy
        by_cases ho : n % 2 = 1
        · have ho' : (n : Int).tmod 2 = 1 := by rw [Int.tmod_eq_emod_of_nonneg (by omega)]; omega
          have hq : (n : Int).tdiv 2 = ((n / 2 : Nat) : Int) := by rw [Int.tdiv_eq_ediv_of_nonneg (by omega)]; omega
          have d0 := hblk1.cell 0
          have d1 := hblk1.cell 1
          have d2 := hblk2.cell 0
          have d3 := hblk2.cell 1
          simp only [List.getElem?_toArray, List.getElem?_cons_zero, List.getElem?_cons_succ] at d0 d1 d2 d3
          go_wp2_with fail
          refine (HP1.out _).mono ?_
          rintro e w3 ⟨rfl, hb3⟩
          have hk1 := hblk1.below hb3 hl1
          have hk2 := hblk2.below hb3 hl2
          have hbel3 := hbel.trans (hb3.mono hbel.size)
          clear d0 d1 d2 d3 hblk1 hblk2 HP1
          have d0 := hk1.cell 0
          have d1 := hk1.cell 1
          have d2 := hk2.cell 0
          have d3 := hk2.cell 1
          have f0 := hk1.frozen 0
          have f1 := hk1.frozen 1
          simp only [List.getElem?_toArray, List.getElem?_cons_zero, List.getElem?_cons_succ] at d0 d1 d2 d3
          go_upto_region 11 with (fail)
          have hk1' := (hk1.set_ 0 (.int .i64 hx2)).set_ 1 (.int .u64 lx2)
          have hk2' := (hk2.far (p := ⟨w.heap.size, 0, none⟩) hne (.int .i64 hx2)).far (p := ⟨w.heap.size, 1, none⟩) hne (.int .u64 lx2)
          have hbel4 := (hbel3.setCell (p := ⟨w.heap.size, 0, none⟩) (Nat.le_refl _) (.int .i64 hx2)).setCell (p := ⟨w.heap.size, 1, none⟩) (Nat.le_refl _) (.int .u64 lx2)
          clear d0 d1 d2 d3 f0 f1 hk1 hk2
          generalize (w3.setCell ⟨w.heap.size, 0, none⟩ (.int .i64 hx2)).setCell ⟨w.heap.size, 1, none⟩ (.int .u64 lx2) = w4 at *
          have hl3 := hk1'.lt
          have hl4 := hk2'.lt
          have d2 := hk2'.cell 0
          have d3 := hk2'.cell 1
          simp only [List.getElem?_toArray, List.getElem?_cons_zero, List.getElem?_cons_succ] at d2 d3
          go_wp2_with fail
          refine (HP2.out _).mono ?_
          rintro e w5 ⟨rfl, hb5⟩
          have hk3 := hk1'.below hb5 hl3
          have hk4 := hk2'.below hb5 hl4
          have hbel5 := hbel4.trans (hb5.mono hbel4.size)
          clear d2 d3
          have d2 := hk4.cell 0
          have d3 := hk4.cell 1
          have f2 := hk4.frozen 0
          have f3 := hk4.frozen 1
          simp only [List.getElem?_toArray, List.getElem?_cons_zero, List.getElem?_cons_succ] at d2 d3
          go_wp2
          go_roundw
          case rel =>
            refine ⟨n / 2, x + y, y + y, by go_num, by omega, tim_odd x y _ n HXY.out ho, ?_, ?_, (hbel5.setCell (Nat.le_of_succ_le hs1) _).setCell (Nat.le_of_succ_le hs1) _⟩
            · rw [HC2.out]
              exact (hk3.far hne2 _).far hne2 _
            · rw [HC4.out]
              exact (hk4.set_ 0 (.int .i64 hy2)).set_ 1 (.int .u64 ly2)
          case measure => simp [intOf]; omega
        · have ho' : ¬ (n : Int).tmod 2 = 1 := by rw [Int.tmod_eq_emod_of_nonneg (by omega)]; omega
          have ho2 : (n : Int).tmod 2 = 0 := by rw [Int.tmod_eq_emod_of_nonneg (by omega)]; omega
          have hq : (n : Int).tdiv 2 = ((n / 2 : Nat) : Int) := by rw [Int.tdiv_eq_ediv_of_nonneg (by omega)]; omega
          have d2 := hblk2.cell 0
          have d3 := hblk2.cell 1
          simp only [List.getElem?_toArray, List.getElem?_cons_zero, List.getElem?_cons_succ] at d2 d3
          clear HP1
          go_wp2_with fail
          refine (HP2.out _).mono ?_
          rintro e w5 ⟨rfl, hb5⟩
          have hk3 := hblk1.below hb5 hl1
          have hk4 := hblk2.below hb5 hl2
          have hbel5 := hbel.trans (hb5.mono hbel.size)
          clear d2 d3
          have d2 := hk4.cell 0
          have d3 := hk4.cell 1
          have f2 := hk4.frozen 0
          have f3 := hk4.frozen 1
          simp only [List.getElem?_toArray, List.getElem?_cons_zero, List.getElem?_cons_succ] at d2 d3
          go_wp2
          go_roundw
          case rel =>
            refine ⟨n / 2, x, y + y, by go_num, by omega, tim_even x y _ n HXY.out ho, ?_, ?_, (hbel5.setCell (Nat.le_of_succ_le hs1) _).setCell (Nat.le_of_succ_le hs1) _⟩
            · rw [HCX.out]
              exact (hk3.far hne2 _).far hne2 _
            · rw [HC4.out]
              exact (hk4.set_ 0 (.int .i64 hy2)).set_ 1 (.int .u64 ly2)
          case measure => simp [intOf]; omega
end Go.Proofs.YtneelnfcjmbboaaDoor
