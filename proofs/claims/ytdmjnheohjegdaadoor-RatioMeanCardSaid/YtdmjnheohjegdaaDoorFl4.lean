/- Contracts: signs, infinities, the greater one, Of. -/
import Derived.Test.YtdmjnheohjegdaaDoorFl3
import Derived.Laws.BitsAllLaws
namespace Go.Proofs.YtdmjnheohjegdaaDoor
open Go.RowKit Go.My Go.My.Fl
set_option linter.unusedSimpArgs false
set_option linter.unusedVariables false

/-! ### words without their sign -/
def absW (b : Nat) : Nat := b % 9223372036854775808
theorem read_abs (b : Nat) : Ieee.double.read (absW b) = match Ieee.double.read b with | .number s m e => .number false m e | .infinity s => .infinity false | .nan s t => .nan false t := by
  unfold absW Ieee.Format.read
  have e1 : Ieee.double.signWeight = 9223372036854775808 := by decide
  simp only [e1]
  have e2 : b % 9223372036854775808 / 9223372036854775808 % 2 = 0 := by omega
  have e3 : b % 9223372036854775808 % 9223372036854775808 = b % 9223372036854775808 := by omega
  simp only [e2, e3]
  split
  · rfl
  · split
    · rfl
    · split <;> rfl
theorem abs_fl {b : Nat} {v : Int} (h : Fl b v) : Fl (absW b) v.natAbs := by
  obtain ⟨s, m, e, h1, h2, h3, h4, rfl⟩ := h
  refine ⟨false, m, e, by rw [read_abs, h1], h2, h3, h4, ?_⟩
  rw [signed_abs, signed_0]; rfl
theorem abs_inf {b : Nat} {s : Bool} (h : If b s) : If (absW b) false := by
  unfold If; rw [read_abs, show Ieee.double.read b = _ from h]
theorem abs_nan {b : Nat} (h : Nn b) : Nn (absW b) := by
  obtain ⟨s, t, h⟩ := h
  exact ⟨false, t, by rw [read_abs, h]⟩

theorem bits_fact (b : Nat) (W : World) : (callFunc 24 #[.float .f64 b]).run Tryd.prog W = .ok (.value (.int .u64 (b : Int))) W := by
  rw [run_callFunc_extern Tryd.func24 (by kernel_rfl) (by kernel_rfl) (by kernel_rfl) (e := Extern.MathFloatBits.float64bits) (by kernel_rfl)]
  rfl
theorem frombits_fact (b : Int) (W : World) : (callFunc 38 #[.int .u64 b]).run Tryd.prog W = .ok (.value (.float .f64 b.toNat)) W := by
  rw [run_callFunc_extern Tryd.func38 (by kernel_rfl) (by kernel_rfl) (by kernel_rfl) (e := Extern.MathFloatBits.float64frombits) (by kernel_rfl)]
  rfl
theorem abs_any (b : Nat) (hb : b < 18446744073709551616) (w : World) : Calls Tryd.prog 28 #[.float .f64 b] w fun e w' => e = .returned (.float .f64 (absW b)) ∧ w' = w := by
  have h1 := fun W => bits_fact b W
  have h2 := fun x W => frombits_fact x W
  go_enter Tryd.func28, Tryd.ntmps28
  go_wp2
  go_ret
  have e := u64_andNot_nat b 9223372036854775808 hb (by decide)
  rw [show (18446744073709551615 - 9223372036854775808 : Nat) = 2 ^ 63 - 1 by decide, Nat.and_two_pow_sub_one_eq_mod] at e
  simp only [show ((9223372036854775808 : Nat) : Int) = 9223372036854775808 from rfl] at e
  rw [e]
  exact ⟨rfl, rfl⟩

/-- the other sign -/
theorem read_neg (b : Nat) (hb : b < 18446744073709551616) : Ieee.double.read (Op.negFloat .f64 b) = (Ieee.double.read b).opposite := by
  have e0 : Op.negFloat .f64 b = b ^^^ 2 ^ 63 := rfl
  rw [e0]
  unfold Ieee.Format.read
  have e1 : Ieee.double.signWeight = 2 ^ 63 := by decide
  simp only [e1]
  have e2 : (b ^^^ 2 ^ 63) % 2 ^ 63 = b % 2 ^ 63 := by
    rw [Nat.xor_mod_two_pow, Nat.mod_self, Nat.xor_zero]
  have e3 : ((b ^^^ 2 ^ 63) / 2 ^ 63 % 2 == 1) = !(b / 2 ^ 63 % 2 == 1) := by
    rw [Nat.xor_div_two_pow, show 2 ^ 63 / 2 ^ 63 = 1 by decide]
    have : b / 2 ^ 63 < 2 := by omega
    generalize b / 2 ^ 63 = q at *
    rcases (show q = 0 ∨ q = 1 by omega) with rfl | rfl <;> decide
  rw [e2, e3]
  split
  · rfl
  · split
    · rfl
    · split <;> rfl
theorem neg_fl {b : Nat} {v : Int} (hb : b < 18446744073709551616) (h : Fl b v) : Fl (Op.negFloat .f64 b) (-v) := by
  obtain ⟨s, m, e, h1, h2, h3, h4, rfl⟩ := h
  refine ⟨!s, m, e, by rw [read_neg b hb, h1]; rfl, h2, h3, h4, ?_⟩
  rw [signed_0, signed_0]; cases s <;> simp
theorem neg_inf {b : Nat} {s : Bool} (hb : b < 18446744073709551616) (h : If b s) : If (Op.negFloat .f64 b) (!s) := by
  unfold If; rw [read_neg b hb, show Ieee.double.read b = _ from h]; rfl
theorem neg_nan {b : Nat} (hb : b < 18446744073709551616) (h : Nn b) : Nn (Op.negFloat .f64 b) := by
  obtain ⟨s, t, h⟩ := h
  exact ⟨!s, t, by rw [read_neg b hb, h]; rfl⟩

/-! ### infinities -/
def infB (b : Nat) : Bool := match Ieee.double.read b with | .infinity _ => true | _ => false
def infS (b : Nat) (t : Bool) : Bool := match Ieee.double.read b with | .infinity s => s == t | _ => false
theorem infB_fl {b : Nat} {v : Int} (h : Fl b v) : infB b = false := by obtain ⟨s, m, e, h, _⟩ := h; unfold infB; rw [h]
theorem infS_fl {b : Nat} {v : Int} (h : Fl b v) (t : Bool) : infS b t = false := by obtain ⟨s, m, e, h, _⟩ := h; unfold infS; rw [h]
theorem infB_nan {b : Nat} (h : Nn b) : infB b = false := by obtain ⟨s, t, h⟩ := h; unfold infB; rw [h]
theorem infS_nan {b : Nat} (h : Nn b) (u : Bool) : infS b u = false := by obtain ⟨s, t, h⟩ := h; unfold infS; rw [h]
theorem infB_inf {b : Nat} {s : Bool} (h : If b s) : infB b = true := by unfold infB; rw [show Ieee.double.read b = _ from h]
theorem infS_inf {b : Nat} {s : Bool} (h : If b s) (t : Bool) : infS b t = (s == t) := by unfold infS; rw [show Ieee.double.read b = _ from h]

theorem fl_most : Fl 9218868437227405311 (((pw 53 - 1) * pw 3171 : Nat) : Int) := by
  have h := read_fl 9218868437227405311 (s := false) (m := 9007199254740991) (e := 971) (by decide +kernel)
  have : Ieee.signed false (9007199254740991 * pw (971 + 2200 : Int).toNat) 0 = (((pw 53 - 1) * pw 3171 : Nat) : Int) := by
    rw [signed_0, pw_53]; rfl
  rwa [this] at h
theorem fl_le_most {b : Nat} {v : Int} (h : Fl b v) : v ≤ (((pw 53 - 1) * pw 3171 : Nat) : Int) := by
  obtain ⟨s, m, e, h1, h2, h3, h4, rfl⟩ := h
  have : m * pw (e + 2200).toNat ≤ (pw 53 - 1) * pw 3171 := Nat.mul_le_mul (by omega) (pw_le (by omega))
  rw [signed_0]; split <;> omega
theorem gt_most (b : Nat) : (FloatKind.f64.format.order b 9218868437227405311 == some .gt) = infS b false := by
  rw [fmt]
  rcases kinds b with ⟨v, h⟩ | ⟨s, h⟩ | h
  · have := gt_fl h fl_most
    rw [fmt] at this
    rw [this, infS_fl h, decide_eq_false (by have := fl_le_most h; omega)]
  · rw [ord_inf_l h fl_most, infS_inf h]; cases s <;> rfl
  · rw [ord_nan_l h, infS_nan h]; rfl

theorem isInf0_any (b : Nat) (hb : b < 18446744073709551616) (w : World) : Calls Tryd.prog 26 #[.float .f64 b, .int .i64 0] w fun e w' => e = .returned (.bool (infB b)) ∧ w' = w := by
  have h1 := gt_most (absW b)
  have h2 : infS (absW b) false = infB b := by
    rcases kinds b with ⟨v, h⟩ | ⟨s, h⟩ | h
    · rw [infS_fl (abs_fl h), infB_fl h]
    · rw [infS_inf (abs_inf h), infB_inf h]; rfl
    · rw [infS_nan (abs_nan h), infB_nan h]
  rw [h2] at h1
  have HA := Lib.hid fun W => abs_any b hb W
  generalize infB b = x at *
  generalize absW b = a at *
  clear h2
  go_enter Tryd.func26, Tryd.ntmps26
  go_wp2_with fail
  refine (HA.out _).mono ?_
  rintro e w2 ⟨rfl, rfl⟩
  go_wp2
  go_ret
  exact ⟨rfl, rfl⟩
theorem isInf1_any (b : Nat) (w : World) : Calls Tryd.prog 26 #[.float .f64 b, .int .i64 1] w fun e w' => e = .returned (.bool (infS b false)) ∧ w' = w := by
  have h1 := gt_most b
  generalize infS b false = x at *
  go_enter Tryd.func26, Tryd.ntmps26
  go_wp2
  go_ret
  exact ⟨rfl, rfl⟩
theorem neg_fact (b : Nat) (W : World) : (Op.unary .neg (.float .f64 b)).run Tryd.prog W = .ok (.float .f64 (Op.negFloat .f64 b)) W := rfl
theorem isInfM_any (b : Nat) (hb : b < 18446744073709551616) (w : World) : Calls Tryd.prog 26 #[.float .f64 b, .int .i64 (-1)] w fun e w' => e = .returned (.bool (infS b true)) ∧ w' = w := by
  have h1 := gt_most (Op.negFloat .f64 b)
  have h2 : infS (Op.negFloat .f64 b) false = infS b true := by
    rcases kinds b with ⟨v, h⟩ | ⟨s, h⟩ | h
    · rw [infS_fl (neg_fl hb h), infS_fl h]
    · rw [infS_inf (neg_inf hb h), infS_inf h]; cases s <;> rfl
    · rw [infS_nan (neg_nan hb h), infS_nan h]
  rw [h2] at h1
  have h3 := fun W => neg_fact b W
  generalize infS b true = x at *
  generalize Op.negFloat .f64 b = a at *
  clear h2
  go_enter Tryd.func26, Tryd.ntmps26
  go_wp2
  go_ret
  exact ⟨rfl, rfl⟩
/-- is it none? -/
def nanB (b : Nat) : Bool := FloatKind.f64.format.order b b != some .eq
theorem nanB_fl {b : Nat} {v : Int} (h : Fl b v) : nanB b = false := neq_fl h
theorem nanB_inf {b : Nat} {s : Bool} (h : If b s) : nanB b = false := by unfold nanB; rw [fmt, ord_inf h h]; cases s <;> rfl
theorem nanB_nan {b : Nat} (h : Nn b) : nanB b = true := by unfold nanB; rw [fmt, ord_nan_l h]; rfl
theorem isNaN_any (b : Nat) (w : World) : Calls Tryd.prog 25 #[.float .f64 b] w fun e w' => e = .returned (.bool (nanB b)) ∧ w' = w := by
  have h1 : (FloatKind.f64.format.order b b != some .eq) = nanB b := rfl
  generalize nanB b = x at *
  go_enter Tryd.func25, Tryd.ntmps25
  go_wp2
  go_ret
  exact ⟨rfl, rfl⟩

/-! ### the greater one -/
def maxW (x y : Nat) : Nat :=
  if FloatKind.f64.decode x == .infinity false || FloatKind.f64.decode y == .infinity false then FloatKind.f64.encode (.infinity false)
  else if (FloatKind.f64.decode x).isNaN || (FloatKind.f64.decode y).isNaN then 0x7FF8000000000001
  else if (FloatKind.f64.decode x).isZero && (FloatKind.f64.decode y).isZero then (if (FloatKind.f64.decode x).neg == false then x else y)
  else if (FloatKind.f64.decode x).order (FloatKind.f64.decode y) == some .gt then x else y
theorem max_fact (x y : Nat) (W : World) : (callFunc 39 #[.float .f64 x, .float .f64 y]).run Tryd.prog W = .ok (.value (.float .f64 (maxW x y))) W := by
  rw [run_callFunc_extern Tryd.func39 (by kernel_rfl) (by kernel_rfl) (by kernel_rfl) (e := Extern.MathDim.pick "math.archMax" false .gt) (by kernel_rfl)]
  rfl
theorem max_any (x y : Nat) (w : World) : Calls Tryd.prog 29 #[.float .f64 x, .float .f64 y] w fun e w' => e = .returned (.float .f64 (maxW x y)) ∧ w' = w := by
  have h1 := fun W => max_fact x y W
  generalize maxW x y = m at *
  go_enter Tryd.func29, Tryd.ntmps29
  go_wp2
  go_ret
  exact ⟨rfl, rfl⟩
theorem max_fl {x y : Nat} {u v : Int} (h : Fl x u) (k : Fl y v) : Fl (maxW x y) (max u v) := by
  have ho := h.order k
  unfold Ieee.Format.order at ho
  have q1 := h
  have q2 := k
  obtain ⟨s, m, e, h1, h2, h3, h4, hu⟩ := h
  obtain ⟨t, n, f, k1, k2, k3, k4, hv⟩ := k
  unfold maxW
  simp only [show FloatKind.f64.decode x = Ieee.double.read x from rfl, show FloatKind.f64.decode y = Ieee.double.read y from rfl]
  rw [ho, cmp_gt, h1, k1]
  rw [if_neg (by simp), if_neg (by simp [Ieee.Datum.isNaN])]
  by_cases z : ((Ieee.Datum.number s m e).isZero && (Ieee.Datum.number t n f).isZero) = true
  · rw [if_pos z]
    have z0 : u = 0 ∧ v = 0 := by
      rw [Bool.and_eq_true] at z
      have z1 : m = 0 := by have := z.1; unfold Ieee.Datum.isZero at this; split at this <;> simp_all
      have z2 : n = 0 := by have := z.2; unfold Ieee.Datum.isZero at this; split at this <;> simp_all
      subst z1 z2
      rw [hu, hv, signed_0, signed_0]; cases s <;> cases t <;> simp
    rw [z0.1] at q1 ⊢
    rw [z0.2] at q2 ⊢
    split
    · exact q1
    · exact q2
  · rw [if_neg z]
    by_cases c : v < u
    · rw [if_pos (decide_eq_true c), Int.max_eq_left (by omega)]; exact q1
    · rw [if_neg (by simpa using c), Int.max_eq_right (by omega)]; exact q2

/-- a through b -/
theorem of_any (a b : Int) (w : World) : Calls Tryd.prog 13 #[.int .i64 a, .int .i64 b] w fun e w' => ∃ r, e = .returned (.float .f64 r) ∧ OpR (Ieee.double.div (FloatKind.f64.nearest a) (FloatKind.f64.nearest b)) r ∧ Fr No w w' ∧ r < 18446744073709551616 := by
  have h1 := run_op Tryd.prog 22 .quo (FloatKind.f64.nearest a) (FloatKind.f64.nearest b) (.inr (.inr (.inr rfl))) w
  have h2 := fv_op .quo (FloatKind.f64.nearest a) (FloatKind.f64.nearest b) w
  have h3 := fw_fr .quo (FloatKind.f64.nearest a) (FloatKind.f64.nearest b) (Fr.refl No w)
  have h4 := fv_lt .quo (FloatKind.f64.nearest a) (FloatKind.f64.nearest b) w
  rw [show floatBits .quo .f64 (FloatKind.f64.nearest a) (FloatKind.f64.nearest b) = Ieee.double.div (FloatKind.f64.nearest a) (FloatKind.f64.nearest b) from rfl] at h2
  generalize fv .quo (FloatKind.f64.nearest a) (FloatKind.f64.nearest b) w = r at *
  generalize fw .quo (FloatKind.f64.nearest a) (FloatKind.f64.nearest b) w = W1 at *
  have hc := fun W => near_fact a W
  have hd := fun W => near_fact b W
  have HR := Lib.hid h2
  clear h2
  generalize FloatKind.f64.nearest a = fa at *
  generalize FloatKind.f64.nearest b = fb at *
  go_enter Tryd.func13, Tryd.ntmps13
  go_wp2
  go_ret
  exact ⟨r, rfl, HR.out, h3, h4⟩
end Go.Proofs.YtdmjnheohjegdaaDoor
