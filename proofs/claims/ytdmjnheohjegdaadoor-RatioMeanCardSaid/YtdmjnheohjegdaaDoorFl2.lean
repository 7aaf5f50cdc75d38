/- Contracts: rounding, times. -/
import Derived.Test.YtdmjnheohjegdaaDoorFl1
import Derived.Test.YtdmjnheohjegdaaDoorKit
import Derived.RegionCalls
namespace Go.Proofs.YtdmjnheohjegdaaDoor
open Go.RowKit Go.My Go.My.Fl
set_option linter.unusedSimpArgs false
set_option linter.unusedVariables false

def tint (d : Ieee.Datum) (x : Nat) : Sem Value := match d with
  | .nan s t => if FloatKind.f64.format.quiet t = t then pure (.float .f64 x) else do
      let kept ← choose (.extern "math.Floor,Ceil,Trunc,RoundToEven.signallingNaN kept" 2)
      pure (.float .f64 (if kept == 1 then x else FloatKind.f64.encode (.nan s (FloatKind.f64.format.quiet t))))
  | d => pure (.float .f64 (FloatKind.f64.encode (d.integral .even)))
theorem tint_eq (b : Nat) : Extern.MathFloor.toIntegral "math.RoundToEven" .even #[.float .f64 b] = tint (Ieee.double.read b) b := rfl
/-- math.RoundToEven, of a number or an infinity -/
theorem rte_num (b : Nat) (h : ¬ Nn b) (W : World) : (callFunc 33 #[.float .f64 b]).run Tryd.prog W = .ok (.value (.float .f64 (Ieee.double.write ((Ieee.double.read b).integral .even)))) W := by
  rw [run_callFunc_extern Tryd.func33 (by kernel_rfl) (by kernel_rfl) (by kernel_rfl) (e := Extern.MathFloor.toIntegral "math.RoundToEven" .even) (by kernel_rfl), tint_eq]
  cases hd : Ieee.double.read b with
  | nan s t => exact absurd ⟨s, t, hd⟩ h
  | number s m e => rfl
  | infinity s => rfl
/-- of none: none -/
def rteV (b : Nat) (W : World) : Nat := match Ieee.double.read b with
  | .nan s t => if FloatKind.f64.format.quiet t = t then b else if (Question.cut (.extern "math.Floor,Ceil,Trunc,RoundToEven.signallingNaN kept" 2) (W.tape W.drawn (.extern "math.Floor,Ceil,Trunc,RoundToEven.signallingNaN kept" 2))) == 1 then b else FloatKind.f64.encode (.nan s (FloatKind.f64.format.quiet t))
  | _ => 0
def rteW (b : Nat) (W : World) : World := match Ieee.double.read b with
  | .nan s t => if FloatKind.f64.format.quiet t = t then W else W.drew
  | _ => W
theorem rteW_fr {S : Nat → Prop} {a W : World} (b : Nat) (h : Fr S a W) : Fr S a (rteW b W) := by
  unfold rteW; split
  · split
    · exact h
    · exact h.drew
  · exact h
theorem read_nan_lt {b : Nat} {s : Bool} {t : Nat} (h : Ieee.double.read b = .nan s t) : 0 < t ∧ t < 4503599627370496 := by
  unfold Ieee.Format.read at h
  have e1 : Ieee.double.signWeight = 9223372036854775808 := by decide
  have e2 : Ieee.double.binade = 4503599627370496 := by decide
  have e3 : Ieee.double.infRung = 9218868437227405312 := by decide
  simp only [e1, e2, e3] at h
  have hm : b % 9223372036854775808 < 9223372036854775808 := Nat.mod_lt _ (by decide)
  split at h
  · cases h
  · split at h
    · cases h
    · split at h
      · cases h
      · injection h with h1 h2; omega
theorem nan_write (s : Bool) (t : Nat) (h0 : 0 < t) (h1 : t < 4503599627370496) : Nn (Ieee.double.write (.nan s t)) := by
  have e1 : Ieee.double.signWeight = 9223372036854775808 := by decide
  have e2 : Ieee.double.binade = 4503599627370496 := by decide
  have e3 : Ieee.double.infRung = 9218868437227405312 := by decide
  unfold Nn Ieee.Format.write Ieee.Format.word Ieee.Format.read
  simp only [e1, e2, e3, Nat.mod_eq_of_lt h1]
  refine ⟨s, t, ?_⟩
  cases s
  · simp only [Bool.false_eq_true, if_false]
    rw [Nat.mod_eq_of_lt (by omega), Nat.div_eq_of_lt (by omega), if_neg (by omega), if_neg (by omega), if_neg (by omega)]
    simp
  · simp only [if_true]
    have : (9223372036854775808 + (9218868437227405312 + t)) % 9223372036854775808 = 9218868437227405312 + t := by omega
    have h2 : (9223372036854775808 + (9218868437227405312 + t)) / 9223372036854775808 = 1 := by omega
    rw [this, h2, if_neg (by omega), if_neg (by omega), if_neg (by omega)]
    simp
theorem quiet_nn (s : Bool) (t : Nat) (ht : t < 4503599627370496) : Nn (FloatKind.f64.encode (.nan s (FloatKind.f64.format.quiet t))) := by
  refine nan_write s _ ?_ ?_
  · show 0 < t ||| 2 ^ 51
    have := @Nat.right_le_or t (2 ^ 51)
    omega
  · show t ||| 2 ^ 51 < 2 ^ 52
    exact Nat.or_lt_two_pow ht (by decide)
theorem rte_nan (b : Nat) (h : Nn b) (W : World) : (callFunc 33 #[.float .f64 b]).run Tryd.prog W = .ok (.value (.float .f64 (rteV b W))) (rteW b W) ∧ Nn (rteV b W) := by
  obtain ⟨s, t, h⟩ := h
  have hl := read_nan_lt h
  rw [run_callFunc_extern Tryd.func33 (by kernel_rfl) (by kernel_rfl) (by kernel_rfl) (e := Extern.MathFloor.toIntegral "math.RoundToEven" .even) (by kernel_rfl), tint_eq]
  unfold rteV rteW tint
  simp only [h]
  by_cases q : FloatKind.f64.format.quiet t = t
  · simp only [if_pos q]
    exact ⟨rfl, s, t, h⟩
  · simp only [if_neg q]
    refine ⟨?_, ?_⟩
    · simp [Question.forced]
    · split
      · exact ⟨s, t, h⟩
      · exact quiet_nn s t hl.2

/-- a sum, or that there is none -/
def rndV (o : Option Int) : Value := match o with | some n => .tuple #[.int .i64 n, .int .i64 0] | none => .tuple #[.int .i64 0, .int .i64 13]

theorem round_fl (b : Nat) (v : Int) (h : Fl b v) (w : World) : Calls Tryd.prog 22 #[.float .f64 b] w fun e w' => e = .returned (rndV (rndO b)) ∧ w' = w := by
  rw [rndO_fl h]
  have h1 := rte_num b (fun hn => by obtain ⟨s, t, hn⟩ := hn; obtain ⟨s', m, e, h, _⟩ := h; rw [h] at hn; cases hn)
  have h2 := fl_even h
  generalize Ieee.double.write ((Ieee.double.read b).integral .even) = r at *
  generalize rndI v = R at *
  have hU := U_pos
  have h3 := ge_fl h2 fl_m63
  have h4 := lt_fl h2 fl_p63
  have e3 : decide (-9223372036854775808 * U ≤ R * U) = decide (-9223372036854775808 ≤ R) := decide_eq_decide.2 ⟨fun h => Int.le_of_mul_le_mul_right h hU, fun h => Int.mul_le_mul_of_nonneg_right h (by omega)⟩
  have e4 : decide (R * U < 9223372036854775808 * U) = decide (R < 9223372036854775808) := decide_eq_decide.2 ⟨fun h => Int.lt_of_mul_lt_mul_right h (by omega), fun h => Int.mul_lt_mul_of_pos_right h hU⟩
  rw [e3] at h3
  rw [e4] at h4
  by_cases c1 : -9223372036854775808 ≤ R
  · by_cases c2 : R < 9223372036854775808
    · have h5 := toInt_fl h2 (by rw [tdiv_U]; exact ⟨c1, c2⟩)
      rw [tdiv_U] at h5
      have h6 := fun W => run_convert_float_int (P := Tryd.prog) W 22 2 .f64 .i64 r R (by rw [Tryd.underlying22]; rfl) Tryd.underlying2 h5
      rw [decide_eq_true c1] at h3
      rw [decide_eq_true c2] at h4
      rw [if_pos ⟨c1, c2⟩]
      have HE := Lib.hid h
      clear h h2 e3 e4 h5
      go_enter Tryd.func22, Tryd.ntmps22
      go_wp2
      go_ret2
      exact ⟨rfl, rfl⟩
    · rw [decide_eq_true c1] at h3
      rw [decide_eq_false c2] at h4
      rw [if_neg (fun hh => c2 hh.2)]
      have HE := Lib.hid h
      clear h h2 e3 e4
      go_enter Tryd.func22, Tryd.ntmps22
      go_wp2
      go_ret2
      exact ⟨rfl, rfl⟩
  · rw [decide_eq_false c1] at h3
    rw [if_neg (fun hh => c1 hh.1)]
    have HE := Lib.hid h
    clear h h2 e3 e4 h4
    go_enter Tryd.func22, Tryd.ntmps22
    go_wp2
    go_ret2
    exact ⟨rfl, rfl⟩

theorem round_inf (b : Nat) (s : Bool) (h : If b s) (w : World) : Calls Tryd.prog 22 #[.float .f64 b] w fun e w' => e = .returned (rndV (rndO b)) ∧ w' = w := by
  rw [rndO_inf h]
  have h1 := rte_num b (fun hn => by obtain ⟨s', t, hn⟩ := hn; rw [show Ieee.double.read b = _ from h] at hn; cases hn)
  have h2 : If (Ieee.double.write ((Ieee.double.read b).integral .even)) s := by
    rw [show Ieee.double.read b = _ from h]
    show Ieee.double.read (Ieee.double.word s Ieee.double.infRung) = _
    rw [infRung_eq]; exact read_top s
  generalize Ieee.double.write ((Ieee.double.read b).integral .even) = r at *
  have h3 : (FloatKind.f64.format.order r 14114281232179134464 == some .gt || FloatKind.f64.format.order r 14114281232179134464 == some .eq) = !s := by
    rw [show FloatKind.f64.format = Ieee.double from rfl, ord_inf_l h2 fl_m63]; cases s <;> rfl
  have h4 : (FloatKind.f64.format.order r 4890909195324358656 == some .lt) = s := by
    rw [show FloatKind.f64.format = Ieee.double from rfl, ord_inf_l h2 fl_p63]; cases s <;> rfl
  have HE := Lib.hid h
  clear h h2
  cases s
  all_goals
    go_enter Tryd.func22, Tryd.ntmps22
    go_wp2
    go_ret2
    exact ⟨rfl, rfl⟩
theorem round_nan (b : Nat) (h : Nn b) (w : World) : Calls Tryd.prog 22 #[.float .f64 b] w fun e w' => e = .returned (rndV (rndO b)) ∧ Fr No w w' := by
  rw [rndO_nan h]
  have h1 := (rte_nan b h w).1
  have h2 := (rte_nan b h w).2
  have hw : Fr No w (rteW b w) := rteW_fr b (Fr.refl _ _)
  generalize rteV b w = r at *
  generalize rteW b w = W1 at *
  have h3 : (FloatKind.f64.format.order r 14114281232179134464 == some .gt || FloatKind.f64.format.order r 14114281232179134464 == some .eq) = false := by
    rw [show FloatKind.f64.format = Ieee.double from rfl, ord_nan_l h2]; rfl
  have HE := Lib.hid h
  clear h h2
  go_enter Tryd.func22, Tryd.ntmps22
  go_wp2
  go_ret2
  exact ⟨rfl, hw⟩
theorem round_any (b : Nat) (w : World) : Calls Tryd.prog 22 #[.float .f64 b] w fun e w' => e = .returned (rndV (rndO b)) ∧ Fr No w w' := by
  rcases kinds b with ⟨v, h⟩ | ⟨s, h⟩ | h
  · exact (round_fl b v h w).mono (by rintro e w' ⟨rfl, rfl⟩; exact ⟨rfl, Fr.refl _ _⟩)
  · exact (round_inf b s h w).mono (by rintro e w' ⟨rfl, rfl⟩; exact ⟨rfl, Fr.refl _ _⟩)
  · exact round_nan b h w

/-- a times x -/
def timesO (a : Int) (x : Nat) : Option Int := (Ieee.double.mul (FloatKind.f64.nearest a) x).bind rndO
theorem opR_rnd {o : Option Nat} {r : Nat} (h : OpR o r) : rndO r = o.bind rndO := by
  cases o with
  | none => exact rndO_nan h
  | some x => have : r = x := h; rw [this]; rfl
theorem times_any (a : Int) (x : Nat) (w : World) : Calls Tryd.prog 10 #[.int .i64 a, .float .f64 x] w fun e w' => e = .returned (rndV (timesO a x)) ∧ Fr No w w' := by
  have h1 := run_op Tryd.prog 22 .mul (FloatKind.f64.nearest a) x (.inr (.inr (.inl rfl))) w
  have h2 := opR_rnd (fv_op .mul (FloatKind.f64.nearest a) x w)
  have h3 := fw_fr .mul (FloatKind.f64.nearest a) x (Fr.refl No w)
  rw [show floatBits .mul .f64 (FloatKind.f64.nearest a) x = Ieee.double.mul (FloatKind.f64.nearest a) x from rfl] at h2
  rw [show (Ieee.double.mul (FloatKind.f64.nearest a) x).bind rndO = timesO a x from rfl] at h2
  generalize timesO a x = o at *
  generalize fv .mul (FloatKind.f64.nearest a) x w = r at *
  generalize fw .mul (FloatKind.f64.nearest a) x w = W1 at *
  have hc := fun W => run_convert_int_float (P := Tryd.prog) W 2 22 .i64 .f64 a (by rw [Tryd.underlying2]; rfl) Tryd.underlying22
  rw [show floatOfInt .f64 a = FloatKind.f64.nearest a from rfl] at hc
  generalize FloatKind.f64.nearest a = fa at *
  have HR := Lib.hid fun W => round_any r W
  rw [h2] at HR
  obtain ⟨x, y, hxy⟩ : ∃ x y : Int, rndV o = .tuple #[.int .i64 x, .int .i64 y] := by cases o <;> exact ⟨_, _, rfl⟩
  rw [hxy] at HR ⊢
  go_enter Tryd.func10, Tryd.ntmps10
  go_wp2_with fail
  refine (HR.out _).mono ?_
  rintro e w2 ⟨rfl, hw2⟩
  go_wp2
  go_ret2
  exact ⟨rfl, h3.trans hw2⟩
end Go.Proofs.YtdmjnheohjegdaaDoor
