/- Floating-point operations that may have no number: what they give, as functions of the world. Of no program. -/
import Derived.Test.YtdmjnheohjegdaaDoorFlM
import Derived.Test.YtdmjnheohjegdaaDoorLib
namespace Go.My.Fl
open Go Ieee
set_option linter.unusedVariables false
set_option linter.unusedSimpArgs false

/-- not a number -/
def Nn (b : Nat) : Prop := ∃ s t, double.read b = .nan s t
/-- an infinity -/
def If (b : Nat) (s : Bool) : Prop := double.read b = .infinity s
theorem kinds (b : Nat) : (∃ v, Fl b v) ∨ (∃ s, If b s) ∨ Nn b := words b

/-- which one the model asks for -/
def nanOf (W : World) (x y : Nat) : Nat := Question.cut (.nanBits .f64 x y) (W.tape W.drawn (.nanBits .f64 x y))
theorem nan_bits (t : Nat) : Nn ((t % 2) * 2 ^ 63 + 0x7ff0000000000000 + 1 + (t / 2) % (2 ^ 52 - 1)) := by
  have h1 : t % 2 < 2 := Nat.mod_lt _ (by decide)
  have h2 : (t / 2) % (2 ^ 52 - 1) < 2 ^ 52 - 1 := Nat.mod_lt _ (by decide)
  generalize t % 2 = a at *
  generalize (t / 2) % (2 ^ 52 - 1) = c at *
  unfold Nn Format.read
  have e1 : double.signWeight = 9223372036854775808 := by decide
  have e2 : double.binade = 4503599627370496 := by decide
  have e3 : double.infRung = 9218868437227405312 := by decide
  simp only [e1, e2, e3]
  have e4 : (a * 2 ^ 63 + 0x7ff0000000000000 + 1 + c) % 9223372036854775808 = 9218868437227405313 + c := by omega
  rw [e4, if_neg (by omega), if_neg (by omega), if_neg (by omega)]
  exact ⟨_, _, rfl⟩
theorem nanOf_nn (W : World) (x y : Nat) : Nn (nanOf W x y) := nan_bits _

/-- what an operation's bits are -/
def OpR (o : Option Nat) (r : Nat) : Prop := match o with | some x => r = x | none => Nn r
def fv (op : BinOp) (x y : Nat) (W : World) : Nat := match floatBits op .f64 x y with | some r => r | none => nanOf W x y
def fw (op : BinOp) (x y : Nat) (W : World) : World := match floatBits op .f64 x y with | some _ => W | none => W.drew
theorem fv_op (op : BinOp) (x y : Nat) (W : World) : OpR (floatBits op .f64 x y) (fv op x y W) := by
  unfold fv; cases floatBits op .f64 x y
  · exact nanOf_nn W x y
  · rfl
theorem fw_fr {S : Nat → Prop} {a W : World} (op : BinOp) (x y : Nat) (h : Fr S a W) : Fr S a (fw op x y W) := by
  unfold fw; cases floatBits op .f64 x y
  · exact h.drew
  · exact h
theorem fv_lt (op : BinOp) (x y : Nat) (W : World) : fv op x y W < 18446744073709551616 := by
  unfold fv
  cases h : floatBits op .f64 x y with
  | some r =>
    have := floatBits_wf h
    simpa [Lit.wf] using this
  | none =>
    show (W.tape W.drawn (.nanBits .f64 x y) % 2) * 2 ^ 63 + 0x7ff0000000000000 + 1 + (W.tape W.drawn (.nanBits .f64 x y) / 2) % (2 ^ 52 - 1) < _
    have h1 : W.tape W.drawn (.nanBits .f64 x y) % 2 < 2 := Nat.mod_lt _ (by decide)
    have h2 : (W.tape W.drawn (.nanBits .f64 x y) / 2) % (2 ^ 52 - 1) < 2 ^ 52 - 1 := Nat.mod_lt _ (by decide)
    generalize W.tape W.drawn (.nanBits .f64 x y) % 2 = a at *
    generalize (W.tape W.drawn (.nanBits .f64 x y) / 2) % (2 ^ 52 - 1) = c at *
    omega
theorem run_op (P : Program) (t : TypeId) (op : BinOp) (x y : Nat) (hop : op = .add ∨ op = .sub ∨ op = .mul ∨ op = .quo) (W : World) : (binOp op t (.float .f64 x) (.float .f64 y)).run P W = .ok (.float .f64 (fv op x y W)) (fw op x y W) := by
  unfold fv fw
  cases h : floatBits op .f64 x y with
  | some r => exact run_float_arith W op t .f64 x y r h
  | none =>
    unfold nanOf
    have hf : ∀ q : Question, (choose q).run P W = if q.forced then .ok 0 W else .ok (q.cut (W.tape W.drawn q)) W.drew := run_choose_drew P W
    rcases hop with rfl | rfl | rfl | rfl
    all_goals
      unfold floatBits at h
      simp only at h
      simp [binOp, Op.floatArith, h, hf, Question.forced]

/-- the whole number that a word is rounded to -/
def inR (n : Int) : Prop := -9223372036854775808 ≤ n ∧ n < 9223372036854775808
instance (n : Int) : Decidable (inR n) := inferInstanceAs (Decidable (_ ∧ _))
def rndO (b : Nat) : Option Int :=
  match double.read b with
  | .number s m e => if inR (rndI (signed s (m * pw (e + 2200).toNat) 0)) then some (rndI (signed s (m * pw (e + 2200).toNat) 0)) else none
  | _ => none
theorem rndO_fl {b : Nat} {v : Int} (h : Fl b v) : rndO b = if inR (rndI v) then some (rndI v) else none := by
  obtain ⟨s, m, e, h1, _, _, _, rfl⟩ := h
  unfold rndO; rw [h1]
theorem rndO_inf {b : Nat} {s : Bool} (h : If b s) : rndO b = none := by unfold rndO; rw [h]
theorem rndO_nan {b : Nat} (h : Nn b) : rndO b = none := by obtain ⟨s, t, h⟩ := h; unfold rndO; rw [h]

/-! ### how words stand to each other -/
theorem ord_nan_l {a : Nat} (h : Nn a) (b : Nat) : double.order a b = none := by
  obtain ⟨s, t, h⟩ := h; unfold Format.order; rw [h]; rfl
theorem ord_nan_r {b : Nat} (h : Nn b) (a : Nat) : double.order a b = none := by
  obtain ⟨s, t, h⟩ := h; unfold Format.order; rw [h]; cases double.read a <;> rfl
theorem ord_inf_l {a b : Nat} {s : Bool} {v : Int} (h : If a s) (k : Fl b v) : double.order a b = some (if s then .lt else .gt) := by
  obtain ⟨t, m, e, k, _⟩ := k; unfold Format.order; rw [show double.read a = _ from h, k]; rfl
theorem ord_inf_r {a b : Nat} {s : Bool} {v : Int} (h : Fl a v) (k : If b s) : double.order a b = some (if s then .gt else .lt) := by
  obtain ⟨t, m, e, h, _⟩ := h; unfold Format.order; rw [h, show double.read b = _ from k]; rfl
theorem ord_inf {a b : Nat} {s t : Bool} (h : If a s) (k : If b t) : double.order a b = some (compare t.toNat s.toNat) := by
  unfold Format.order; rw [show double.read a = _ from h, show double.read b = _ from k]; rfl
theorem cmp_lt {u v : Int} : (some (compare u v) == some Ordering.lt) = decide (u < v) := by
  simp only [compare, compareOfLessAndEq]
  by_cases h : u < v
  · simp [h]
  · by_cases h2 : u = v
    · simp [h2]
    · simp [h, h2]
theorem cmp_gt {u v : Int} : (some (compare u v) == some Ordering.gt) = decide (v < u) := by
  simp only [compare, compareOfLessAndEq]
  by_cases h : u < v
  · simp [h]; omega
  · by_cases h2 : u = v
    · simp [h2]
    · simp [h, h2]; omega
theorem cmp_eq {u v : Int} : (some (compare u v) == some Ordering.eq) = decide (u = v) := by
  simp only [compare, compareOfLessAndEq]
  by_cases h : u < v
  · simp [h]; omega
  · by_cases h2 : u = v
    · simp [h2]
    · simp [h, h2]
section
variable {a b : Nat} {u v : Int} (h : Fl a u) (k : Fl b v)
include h k
theorem lt_fl : (FloatKind.f64.format.order a b == some .lt) = decide (u < v) := by
  rw [show FloatKind.f64.format = double from rfl, h.order k, cmp_lt]
theorem gt_fl : (FloatKind.f64.format.order a b == some .gt) = decide (v < u) := by
  rw [show FloatKind.f64.format = double from rfl, h.order k, cmp_gt]
theorem eq_fl : (FloatKind.f64.format.order a b == some .eq) = decide (u = v) := by
  rw [show FloatKind.f64.format = double from rfl, h.order k, cmp_eq]
theorem le_fl : (FloatKind.f64.format.order a b == some .lt || FloatKind.f64.format.order a b == some .eq) = decide (u ≤ v) := by
  rw [lt_fl h k, eq_fl h k, ← Bool.decide_or]; exact decide_eq_decide.2 (by omega)
theorem ge_fl : (FloatKind.f64.format.order a b == some .gt || FloatKind.f64.format.order a b == some .eq) = decide (v ≤ u) := by
  rw [gt_fl h k, eq_fl h k, ← Bool.decide_or]; exact decide_eq_decide.2 (by omega)
end
theorem toInt_fl {b : Nat} {v : Int} (h : Fl b v) (hr : inR (v.tdiv U)) : floatToIntVal .f64 b .i64 = some (v.tdiv U) := by
  unfold floatToIntVal
  rw [show FloatKind.f64.decode b = double.read b from rfl, fl_toInt h]
  simp only
  unfold inR at hr
  rw [if_pos]
  have e1 : IntKind.i64.min = -9223372036854775808 := by decide
  have e2 : IntKind.i64.max = 9223372036854775807 := by decide
  rw [e1, e2]; omega
theorem tdiv_U (n : Int) : (n * U).tdiv U = n := by have := U_pos; rw [Int.mul_tdiv_cancel _ (by omega)]
/-- constants -/
theorem fl_const (n : Int) (b : Nat) (h : n.natAbs ≤ 9007199254740992) (hb : FloatKind.f64.nearest n = b) : Fl b (n * U) := by
  rw [← hb]; exact fl_int (by rw [pw_53]; exact h)
theorem fl_p63 : Fl 4890909195324358656 (9223372036854775808 * U) := by
  have h := (nearest_int 9223372036854775808).exact ⟨pw 11, 2252, by rw [pw_53]; unfold pw; decide, by omega, by
    unfold U; rw [Int.natAbs_mul, Int.natAbs_natCast, show 2252 = 52 + 2200 from rfl, pw_add 52, ← Nat.mul_assoc]
    congr 1; unfold pw; decide⟩ (by
    unfold U; rw [Int.natAbs_mul, Int.natAbs_natCast]
    have : Int.natAbs 9223372036854775808 = pw 63 := by unfold pw; decide
    rw [this, ← pw_add]; exact pw_lt (by omega))
  have e : FloatKind.f64.nearest 9223372036854775808 = 4890909195324358656 := by decide +kernel
  rwa [e] at h
theorem fl_m63 : Fl 14114281232179134464 (-9223372036854775808 * U) := by
  have h := (nearest_int (-9223372036854775808)).exact ⟨pw 11, 2252, by rw [pw_53]; unfold pw; decide, by omega, by
    unfold U; rw [Int.natAbs_mul, Int.natAbs_natCast, show 2252 = 52 + 2200 from rfl, pw_add 52, ← Nat.mul_assoc]
    congr 1; unfold pw; decide⟩ (by
    unfold U; rw [Int.natAbs_mul, Int.natAbs_natCast]
    have : Int.natAbs (-9223372036854775808) = pw 63 := by unfold pw; decide
    rw [this, ← pw_add]; exact pw_lt (by omega))
  have e : FloatKind.f64.nearest (-9223372036854775808) = 14114281232179134464 := by decide +kernel
  rwa [e] at h
theorem fl_zero : Fl 0 0 := by
  have := fl_const 0 0 (by decide) (by decide +kernel)
  rwa [Int.zero_mul] at this
theorem fl_half : Fl 4602678819172646912 Hf := by
  have h := read_fl 4602678819172646912 (s := false) (m := 4503599627370496) (e := -53) (by decide +kernel)
  have : signed false (4503599627370496 * pw (-53 + 2200 : Int).toNat) 0 = Hf := by
    rw [signed_0, ← pw_52, ← pw_add]; rfl
  rwa [this] at h
end Go.My.Fl
