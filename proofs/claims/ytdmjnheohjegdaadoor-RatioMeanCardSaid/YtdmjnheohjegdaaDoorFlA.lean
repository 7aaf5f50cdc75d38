/- Mean, of whole weights; the law's walk RatioMean. -/
import Derived.Test.YtdmjnheohjegdaaDoorFlM5
import Derived.Test.YtdmjnheohjegdaaDoorFl7
import Derived.Deep.DrawnRows
namespace Go.Proofs.YtdmjnheohjegdaaDoor
open Go.RowKit Go.My Go.My.Fl
set_option linter.unusedSimpArgs false
set_option linter.unusedVariables false

/-! ### of no program -/
def dotS (z : List (Int × Int)) : Int := total (z.map fun p => p.1 * p.2)
def sumW (z : List (Int × Int)) : Int := total (z.map fun p => p.2)
/-- small sums, weights of 1 to 100 -/
def MnOk (z : List (Int × Int)) : Prop := ∀ p ∈ z, p.1.natAbs ≤ 1073741824 ∧ 1 ≤ p.2 ∧ p.2 ≤ 100
theorem dot_snoc (z : List (Int × Int)) (p : Int × Int) : dotS (z ++ [p]) = dotS z + p.1 * p.2 ∧ sumW (z ++ [p]) = sumW z + p.2 := by
  unfold dotS sumW
  rw [List.map_append, List.map_append, total_append, total_append]
  simp [total_cons, total_nil]
theorem dot_bound (z : List (Int × Int)) (h : MnOk z) : (dotS z).natAbs ≤ 107374182400 * z.length ∧ (z.length : Int) ≤ sumW z ∧ sumW z ≤ 100 * z.length := by
  induction z with
  | nil => exact ⟨by decide, by decide, by decide⟩
  | cons p z ih =>
    have h1 := h p List.mem_cons_self
    have h2 := ih fun q hq => h q (List.mem_cons_of_mem _ hq)
    have h3 : (p.1 * p.2).natAbs ≤ 1073741824 * 100 := by rw [Int.natAbs_mul]; exact Nat.mul_le_mul h1.1 (by omega)
    unfold dotS sumW at *
    rw [List.map_cons, List.map_cons, total_cons, total_cons, List.length_cons]
    generalize p.1 * p.2 = pq at *
    omega
theorem dot_between (z : List (Int × Int)) (h : MnOk z) (lo hi : Int) (hb : ∀ p ∈ z, lo ≤ p.1 ∧ p.1 ≤ hi) : lo * sumW z ≤ dotS z ∧ dotS z ≤ hi * sumW z := by
  induction z with
  | nil => exact ⟨by unfold sumW dotS; simp [total_nil], by unfold sumW dotS; simp [total_nil]⟩
  | cons p z ih =>
    have h1 := h p List.mem_cons_self
    have h2 := ih (fun q hq => h q (List.mem_cons_of_mem _ hq)) fun q hq => hb q (List.mem_cons_of_mem _ hq)
    have h3 := hb p List.mem_cons_self
    have a1 : lo * p.2 ≤ p.1 * p.2 := Int.mul_le_mul_of_nonneg_right h3.1 (by omega)
    have a2 : p.1 * p.2 ≤ hi * p.2 := Int.mul_le_mul_of_nonneg_right h3.2 (by omega)
    unfold dotS sumW at *
    rw [List.map_cons, List.map_cons, total_cons, total_cons, Int.mul_add, Int.mul_add]
    omega
/-- what the mean is -/
theorem mean_math (z : List (Int × Int)) (h : MnOk z) (hz : z ≠ []) (hl : z.length ≤ 100) {s t : Nat} (hs : Fl s (dotS z * U)) (ht : Fl t (sumW z * U)) :
    ∃ r v, Ieee.double.div s t = some r ∧ Fl r v ∧ ∀ lo hi : Int, (∀ p ∈ z, lo ≤ p.1 ∧ p.1 ≤ hi) → lo.natAbs ≤ 9007199254740992 → hi.natAbs ≤ 9007199254740992 → lo * U ≤ v ∧ v ≤ hi * U := by
  have hU := U_pos
  have p53 := pw_53
  have hb := dot_bound z h
  have hpos : 0 < z.length := List.length_pos_iff.2 hz
  have hW : 0 < sumW z * U := Int.mul_pos (by omega) hU
  obtain ⟨r, w, e, h1, h2, h3⟩ := Fl.divI hs ht hW (by
    rw [Int.natAbs_mul, Int.natCast_mul, show (U.natAbs : Int) = U by omega]
    have a1 : ((dotS z).natAbs : Int) * U ≤ 10737418240000 * U := Int.mul_le_mul_of_nonneg_right (by omega) (by omega)
    have a2 : 1 * U ≤ sumW z * U := Int.mul_le_mul_of_nonneg_right (by omega) (by omega)
    omega)
  have hbd := fun lo hi hb => dot_between z h lo hi hb
  have hx : ∀ lo hi : Int, (∀ p ∈ z, lo ≤ p.1 ∧ p.1 ≤ hi) → lo * U ≤ w ∧ w ≤ hi * U := by
    intro lo hi hb2
    have g := hbd lo hi hb2
    refine ⟨h2 lo ?_, h3 hi ?_⟩
    · rw [← Int.mul_assoc]; exact Int.mul_le_mul_of_nonneg_right g.1 (by omega)
    · rw [← Int.mul_assoc]; exact Int.mul_le_mul_of_nonneg_right g.2 (by omega)
  have g0 := hx (-1073741824) 1073741824 fun p hp => by have := (h p hp).1; omega
  have hr := rp_int (n := 1073741824) (by rw [p53]; decide)
  have hlt := Go.My.Fl.int_lt (n := 1073741824) (by rw [p53]; decide)
  obtain ⟨v, hv⟩ := h1.fl hr hlt (by
    have : (1073741824 * U).natAbs = 1073741824 * pw 2200 := by rw [Int.natAbs_mul, show U.natAbs = pw 2200 from natAbs_U]; rfl
    rw [this]
    have : U = ((pw 2200 : Nat) : Int) := rfl
    omega)
  refine ⟨r, v, e, hv, fun lo hi hb2 b1 b2 => ?_⟩
  have g := hx lo hi hb2
  exact ⟨h1.ge (rp_int (by omega)) hv g.1, h1.le (rp_int (by omega)) hv g.2⟩

/-- a thousandth more, or less, is so -/
theorem fl_small : ∃ c : Int, Fl 4562254508917369340 c ∧ 0 ≤ c ∧ c ≤ U := by
  have h := read_fl 4562254508917369340 (s := false) (m := 4611686018427388) (e := -62) (by decide +kernel)
  refine ⟨_, h, ?_, ?_⟩
  · rw [signed_0]; simp; omega
  · rw [signed_0]
    have : (4611686018427388 : Nat) * pw (-62 + 2200 : Int).toNat ≤ pw 62 * pw 2138 := by
      refine Nat.mul_le_mul ?_ (pw_le (by decide))
      unfold pw; decide
    rw [← pw_add] at this
    unfold U
    have e : 62 + 2138 = 2200 := rfl
    rw [e] at this
    simp only [Bool.false_eq_true, if_false]
    omega
theorem less_small (lo : Int) (hl : lo.natAbs ≤ 1099511627776) : ∃ r x, Ieee.double.sub (FloatKind.f64.nearest lo) 4562254508917369340 = some r ∧ Fl r x ∧ x ≤ lo * U := by
  have p53 := pw_53
  have hU := U_pos
  obtain ⟨c, hc, c0, c1⟩ := fl_small
  have f1 : Fl (FloatKind.f64.nearest lo) (lo * U) := fl_int (by omega)
  obtain ⟨r, e, h⟩ := f1.sub hc
  have nb : lo * U ≤ 1099511627776 * U ∧ -(1099511627776 * U) ≤ lo * U := by
    have a1 : lo * U ≤ 1099511627776 * U := Int.mul_le_mul_of_nonneg_right (by omega) (by omega)
    have a2 : -1099511627776 * U ≤ lo * U := Int.mul_le_mul_of_nonneg_right (by omega) (by omega)
    rw [Int.neg_mul] at a2
    exact ⟨a1, a2⟩
  obtain ⟨x, hx⟩ := h.fl (c := 2199023255552 * U) (rp_int (by rw [p53]; decide)) (Go.My.Fl.int_lt (by rw [p53]; decide)) (by omega)
  exact ⟨r, x, e, hx, h.le (rp_int (by omega)) hx (by omega)⟩
theorem more_small (hi : Int) (hl : hi.natAbs ≤ 1099511627776) : ∃ r x, Ieee.double.add (FloatKind.f64.nearest hi) 4562254508917369340 = some r ∧ Fl r x ∧ hi * U ≤ x := by
  have p53 := pw_53
  have hU := U_pos
  obtain ⟨c, hc, c0, c1⟩ := fl_small
  have f1 : Fl (FloatKind.f64.nearest hi) (hi * U) := fl_int (by omega)
  obtain ⟨r, e, h⟩ := f1.add hc
  have nb : hi * U ≤ 1099511627776 * U ∧ -(1099511627776 * U) ≤ hi * U := by
    have a1 : hi * U ≤ 1099511627776 * U := Int.mul_le_mul_of_nonneg_right (by omega) (by omega)
    have a2 : -1099511627776 * U ≤ hi * U := Int.mul_le_mul_of_nonneg_right (by omega) (by omega)
    rw [Int.neg_mul] at a2
    exact ⟨a1, a2⟩
  obtain ⟨x, hx⟩ := h.fl (c := 2199023255552 * U) (rp_int (by rw [p53]; decide)) (Go.My.Fl.int_lt (by rw [p53]; decide)) (by omega)
  exact ⟨r, x, e, hx, h.ge (rp_int (by omega)) hx (by omega)⟩

/-! ### rows of numbers -/
def fs_ (l : List Int) : List Value := l.map fun w => Value.float .f64 (FloatKind.f64.nearest w)
theorem fs_get (l : List Int) (k : Nat) (h : k < l.length) : (fs_ l)[k]? = some (.float .f64 (FloatKind.f64.nearest l[k])) := by simp [fs_, h]
theorem fs_append (l r : List Int) : fs_ (l ++ r) = fs_ l ++ fs_ r := by simp [fs_]
theorem fs_length (l : List Int) : (fs_ l).length = l.length := by simp [fs_]
theorem elF : El Tryd.prog 40 22 1 8 := ⟨Tryd.underlying40, by
  have h : (Tryd.prog.info? 22).map (fun i => (i.zero, i.size, i.bytes)) = some (some (.float .f64 0), 1, 8) := by kernel_rfl
  obtain ⟨i, hi, hz, hs, hb⟩ := info_parts h
  exact ⟨i, _, hi, hz, hs, hb, rfl⟩, by omega⟩

theorem near_factN' (n : Int) (W : World) : (convert 3 22 (.int .i64 n)).run Tryd.prog W = .ok (.float .f64 (FloatKind.f64.nearest n)) W :=
  run_convert_int_float (P := Tryd.prog) W 3 22 .i64 .f64 n (by rw [Tryd.underlying3]; rfl) Tryd.underlying22
theorem finite_any (b : Nat) (v : Int) (hb : b < 18446744073709551616) (h : Fl b v) (w : World) : Calls Tryd.prog 32 #[.float .f64 b] w fun e w' => e = .returned (.bool true) ∧ w' = w := by
  have H1 := Lib.hid fun W => isNaN_any b W
  have H2 := Lib.hid fun W => isInf0_any b hb W
  rw [nanB_fl h] at H1
  rw [infB_fl h] at H2
  clear h
  go_enter Tryd.func32, Tryd.ntmps32
  go_wp2_with fail
  refine (H1.out _).mono ?_
  rintro e w2 ⟨rfl, rfl⟩
  go_wp2_with fail
  refine (H2.out _).mono ?_
  rintro e w2 ⟨rfl, rfl⟩
  go_wp2
  go_ret
  exact ⟨rfl, rfl⟩

theorem early19_any (A : Option Addr) (c n : Nat) (w : World) (hn : n ≤ c) (hc : c ≤ maxLen) : Calls Tryd.prog 19 #[.slice A n c] w fun e w' => e = .returned (.slice A (min n 100) c) ∧ w' = w := by
  have h1 : (min (n : Int) 100).toNat = min n 100 := by omega
  have h2 : 0 ≤ min (n : Int) 100 ∧ min (n : Int) 100 ≤ (c : Int) := by omega
  go_enter Tryd.func19, Tryd.ntmps19
  go_wp2
  go_ret
  exact ⟨rfl, rfl⟩

theorem fl_zero0' : Fl 0 (dotS [] * U) := by
  have : dotS [] * U = 0 := by unfold dotS; rw [List.map_nil, total_nil, Int.zero_mul]
  rw [this]; exact fl_zero
def MeanRel (w : World) (z : List (Int × Int)) (sv tv bv iv : Value) (wr : World) : Prop :=
  ∃ k : Nat, k ≤ z.length ∧ iv = .int .i64 k ∧ bv = .bool (decide (0 < k)) ∧ (∃ s, sv = .float .f64 s ∧ Fl s (dotS (z.take k) * U)) ∧ (∃ t, tv = .float .f64 t ∧ Fl t (sumW (z.take k) * U)) ∧ Fr No w wr
theorem take_snoc {z : List (Int × Int)} {k : Nat} (hk : k < z.length) : dotS (z.take (k + 1)) = dotS (z.take k) + z[k].1 * z[k].2 ∧ sumW (z.take (k + 1)) = sumW (z.take k) + z[k].2 := by
  rw [List.take_succ_eq_append_getElem hk]; exact dot_snoc _ _
theorem take_ok {z : List (Int × Int)} (h : MnOk z) (k : Nat) : MnOk (z.take k) := fun p hp => h p (List.mem_of_mem_take hp)
theorem div00 : Ieee.double.div 0 0 = none := by decide +kernel

set_option maxHeartbeats 1000000 in
theorem mean_nil (A B : Option Addr) (c d : Nat) (w : World) : Calls Tryd.prog 20 #[.slice A 0 c, .slice B 0 d] w fun e w' => e = .returned (.tuple #[.float .f64 0, .bool false]) ∧ Fr No w w' := by
  have o1 := run_op Tryd.prog 22 .quo 0 0 (.inr (.inr (.inr rfl))) w
  have o3 := fw_fr .quo 0 0 (Fr.refl No w)
  generalize fv .quo 0 0 w = r at *
  generalize fw .quo 0 0 w = w1 at *
  go_enter Tryd.func20, Tryd.ntmps20
  go_wp2
  go_loopw [6, 7, 8, 16] (fun sv tv bv iv wr => sv = .float .f64 0 ∧ tv = .float .f64 0 ∧ bv = .bool false ∧ iv = .int .i64 0 ∧ wr = w) (fun _ _ _ _ _ => 0)
  case atStart => exact ⟨rfl, rfl, rfl, rfl, rfl⟩
  case round =>
    obtain ⟨rfl, rfl, rfl, rfl, rfl⟩ := hrel
    go_wp2
    go_ret2
    exact ⟨rfl, o3⟩

set_option maxHeartbeats 1000000 in
theorem mean_any (F G : Nat → Prop) (A B : Option Addr) (c d : Nat) (z : List (Int × Int)) (w : World) (h1 : Rd w F 1 A z.length (is_ (z.map fun p => p.1))) (h2 : Rd w G 1 B z.length (fs_ (z.map fun p => p.2))) (hok : MnOk z) (hz : z ≠ []) (hl : z.length ≤ 100) :
    Calls Tryd.prog 20 #[.slice A z.length c, .slice B z.length d] w fun e w' => ∃ r v, e = .returned (.tuple #[.float .f64 r, .bool true]) ∧ Fr No w w' ∧ Fl r v ∧
      ∀ lo hi : Int, (∀ p ∈ z, lo ≤ p.1 ∧ p.1 ≤ hi) → lo.natAbs ≤ 9007199254740992 → hi.natAbs ≤ 9007199254740992 → lo * U ≤ v ∧ v ≤ hi * U := by
  have H1 : Hid (Rd w (Lt w.heap.size) 1 A z.length (is_ (z.map fun p => p.1))) := rd_lt h1 (by omega)
  have H2 : Hid (Rd w (Lt w.heap.size) 1 B z.length (fs_ (z.map fun p => p.2))) := rd_lt h2 (by omega)
  have HOK := Lib.hid hok
  have HZ := Lib.hid hz
  have hpos : 0 < z.length := List.length_pos_iff.2 hz
  clear h1 h2 hok hz
  go_enter Tryd.func20, Tryd.ntmps20
  go_wp2
  go_loopw [6, 7, 8, 16] (fun sv tv bv iv wr => MeanRel w z sv tv bv iv wr) (fun _ _ _ iv _ => z.length - (intOf iv).toNat)
  case atStart => exact ⟨0, Nat.zero_le _, rfl, rfl, ⟨0, rfl, fl_zero0'⟩, ⟨0, rfl, fl_zero0'⟩, Fr.refl _ _⟩
  case round =>
    obtain ⟨k, hk, rfl, rfl, ⟨s, rfl, hs⟩, ⟨t, rfl, ht⟩, hfr⟩ := hrel
    by_cases hlt : k < z.length
    · obtain ⟨ad, u, rfl, _, hx, hc⟩ := (H1.out.below hfr.belowNo fun _ h => h).at_ hlt
      rw [is_get _ k (by rw [List.length_map]; exact hlt), List.getElem_map] at hx
      injection hx with hx
      subst hx
      obtain ⟨bd, u, rfl, _, hy, hd⟩ := (H2.out.below hfr.belowNo fun _ h => h).at_ hlt
      rw [fs_get _ k (by rw [List.length_map]; exact hlt), List.getElem_map] at hy
      injection hy with hy
      subst hy
      have p53 := pw_53
      obtain ⟨b1, b2, b3⟩ := HOK.out _ (List.getElem_mem hlt)
      have hsn := take_snoc hlt
      have hbs := dot_bound _ (take_ok HOK.out k)
      have hbl : (z.take k).length = k := by rw [List.length_take]; omega
      rw [hbl] at hbs
      have hXW : (z[k].1 * z[k].2).natAbs ≤ 1073741824 * 100 := by rw [Int.natAbs_mul]; exact Nat.mul_le_mul b1 (by omega)
      obtain ⟨HE1, HE2⟩ : Hid (dotS (z.take (k + 1)) = dotS (z.take k) + z[k].1 * z[k].2) ∧ Hid (sumW (z.take (k + 1)) = sumW (z.take k) + z[k].2) := hsn
      generalize z[k].1 = x at *
      generalize z[k].2 = y at *
      have f1 : Fl (FloatKind.f64.nearest x) (x * U) := fl_int (by omega)
      have f2 : Fl (FloatKind.f64.nearest y) (y * U) := fl_int (by omega)
      have hU := U_pos
      have g1 := gt_fl f2 fl_zero
      have hy0 : 0 < y * U := Int.mul_pos (by omega) hU
      rw [decide_eq_true hy0] at g1
      have HI := Lib.hid fun W => isInf1_any (FloatKind.f64.nearest y) W
      rw [infS_fl f2] at HI
      obtain ⟨r1, w1, e1, q1, q2⟩ := f1.mul f2
      have e2 : w1 = x * y * U := by
        have : w1 * U = (x * y * U) * U := by rw [q2]; simp only [Int.mul_comm, Int.mul_left_comm, Int.mul_assoc]
        exact Int.eq_of_mul_eq_mul_right (by omega) this
      subst e2
      have f3 := rn_exactI q1 (by omega)
      obtain ⟨r2, e3, q3⟩ := hs.add f3
      rw [← Int.add_mul] at q3
      have f4 := rn_exactI q3 (by omega)
      obtain ⟨r3, e4, q4⟩ := ht.add f2
      rw [← Int.add_mul] at q4
      have f5 := rn_exactI q4 (by omega)
      have c1 := fun W => op_fact .mul _ _ r1 e1 W
      have c2 := fun W => op_fact .add _ _ r2 e3 W
      have c3 := fun W => op_fact .add _ _ r3 e4 W
      have c4 := fun W => near_fact x W
      have F4 := Lib.hid f4
      have F5 := Lib.hid f5
      clear f1 f2 f3 f4 f5 q1 q2 q3 q4 e1 e3 e4 hbs hbl hXW b1 b2 b3 hy0 hU p53 hs ht
      generalize FloatKind.f64.nearest x = fx at *
      generalize FloatKind.f64.nearest y = fy at *
      go_wp2_with fail
      refine (HI.out _).mono ?_
      rintro e w5 ⟨rfl, rfl⟩
      go_wp2
      go_quiet (fail)
      go_wp2
      go_roundw
      case rel =>
        refine ⟨k + 1, by omega, by go_num, ?_, ⟨r2, rfl, ?_⟩, ⟨r3, rfl, ?_⟩, ?_⟩
        · rw [decide_eq_true (by omega)]
        · rw [HE1.out]; exact F4.out
        · rw [HE2.out]; exact F5.out
        · first | exact hfr.drewN _ | exact hfr.drew | exact hfr
      case measure => simp [intOf]; omega
    · obtain rfl : k = z.length := by omega
      rw [List.take_length] at hs ht
      obtain ⟨r, v, e1, hv, hb⟩ := mean_math z HOK.out HZ.out hl hs ht
      have c1 := fun W => op_fact .quo _ _ r e1 W
      have hr : r < 18446744073709551616 := by
        have := floatBits_wf (op := .quo) (k := .f64) (x := s) (y := t) (r := r) e1
        simpa [Lit.wf] using this
      have HFI := Lib.hid fun W => finite_any r v hr hv W
      have HB := Lib.hid hb
      have HV := Lib.hid hv
      clear hb hv hr e1 hs ht
      have g1 : decide (0 < z.length) = true := decide_eq_true hpos
      go_wp2_with fail
      refine (HFI.out _).mono ?_
      rintro e w5 ⟨rfl, rfl⟩
      go_wp2
      refine bodyPost_ret (v := .tuple #[.float .f64 r, .bool true]) (by simp [results, Tryd.results20, go_sem]) rfl ?_
      exact ⟨r, v, rfl, hfr, HV.out, HB.out⟩
end Go.Proofs.YtdmjnheohjegdaaDoor
