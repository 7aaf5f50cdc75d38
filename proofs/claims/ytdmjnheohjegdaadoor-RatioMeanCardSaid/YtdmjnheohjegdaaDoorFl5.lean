/- Contracts: near, of the program and of the document. -/
import Derived.Test.YtdmjnheohjegdaaDoorFl4
namespace Go.Proofs.YtdmjnheohjegdaaDoor
open Go.RowKit Go.My Go.My.Fl
set_option linter.unusedSimpArgs false
set_option linter.unusedVariables false

/-- at most -/
def leO (d : Nat) (q : Option Nat) : Bool := match q with
  | some q => (FloatKind.f64.format.order d q == some .lt || FloatKind.f64.format.order d q == some .eq)
  | none => false
theorem leO_op {o : Option Nat} {q : Nat} (h : OpR o q) (d : Nat) : (FloatKind.f64.format.order d q == some .lt || FloatKind.f64.format.order d q == some .eq) = leO d o := by
  cases o with
  | none => rw [fmt, ord_nan_r h]; rfl
  | some x => have : q = x := h; rw [this]; rfl
theorem ord_r {r r' : Nat} {x : Int} (h : Fl r x) (h' : Fl r' x) (d : Nat) : Ieee.double.order d r = Ieee.double.order d r' := by
  rcases kinds d with ⟨v, k⟩ | ⟨s, k⟩ | k
  · rw [k.order h, k.order h']
  · rw [ord_inf_l k h, ord_inf_l k h']
  · rw [ord_nan_l k, ord_nan_l k]
theorem ord_l {r r' : Nat} {x : Int} (h : Fl r x) (h' : Fl r' x) (d : Nat) : Ieee.double.order r d = Ieee.double.order r' d := by
  rcases kinds d with ⟨v, k⟩ | ⟨s, k⟩ | k
  · rw [h.order k, h'.order k]
  · rw [ord_inf_r h k, ord_inf_r h' k]
  · rw [ord_nan_r k, ord_nan_r k]
theorem ord_read {r r' : Nat} (h : Ieee.double.read r = Ieee.double.read r') (d : Nat) : Ieee.double.order r d = Ieee.double.order r' d := by
  unfold Ieee.Format.order; rw [h]
theorem rn_zero {r : Nat} (h : RN 0 r) : Fl r 0 := h.exact ⟨0, 1126, by omega, by omega, by simp⟩ (pw_pos _)
theorem rn_ord {w : Int} {r r' : Nat} (h : RN w r) (h' : RN w r') (d : Nat) : Ieee.double.order d r = Ieee.double.order d r' := by
  by_cases c : w = 0
  · subst c; exact ord_r (rn_zero h) (rn_zero h') d
  · obtain ⟨s, rfl, hs⟩ := h
    obtain ⟨t, rfl, ht⟩ := h'
    rw [hs c, ht c]
theorem mul_cong (p : Nat) {m m' : Nat} {v : Int} (h : Fl m v) (h' : Fl m' v) (d : Nat) : leO d (Ieee.double.mul p m) = leO d (Ieee.double.mul p m') := by
  rcases kinds p with ⟨u, k⟩ | ⟨s, k⟩ | ⟨s, t, k⟩
  · obtain ⟨r, w, e1, h1, h2⟩ := k.mul h
    obtain ⟨r', w', e1', h1', h2'⟩ := k.mul h'
    have : w = w' := Int.eq_of_mul_eq_mul_right (by have := U_pos; omega) (h2.trans h2'.symm)
    subst this
    rw [e1, e1']
    unfold leO
    simp only [fmt]
    rw [rn_ord h1 h1' d]
  · obtain ⟨a, n, e, h1, h2, h3, h4, rfl⟩ := h
    obtain ⟨a', n', e', h1', h2', h3', h4', hv⟩ := h'
    have hn : n = 0 ↔ n' = 0 := by
      have p1 := pw_pos (e + 2200).toNat
      have p2 := pw_pos (e' + 2200).toNat
      have := congrArg Int.natAbs hv
      rw [signed_abs, signed_abs] at this
      constructor
      · rintro rfl; rw [Nat.zero_mul] at this; exact (Nat.mul_eq_zero.1 this.symm).resolve_right (by omega)
      · rintro rfl; rw [Nat.zero_mul] at this; exact (Nat.mul_eq_zero.1 this).resolve_right (by omega)
    unfold Ieee.Format.mul
    rw [show Ieee.double.read p = _ from k, h1, h1']
    unfold Ieee.Datum.product
    simp only
    by_cases c : n = 0
    · rw [if_pos c, if_pos (hn.1 c)]
    · rw [if_neg c, if_neg (fun h => c (hn.2 h))]
      have : a = a' := by
        have q1 : 0 < n * pw (e + 2200).toNat := Nat.mul_pos (by omega) (pw_pos _)
        have q2 : 0 < n' * pw (e' + 2200).toNat := Nat.mul_pos (by omega) (pw_pos _)
        rw [signed_0, signed_0] at hv
        generalize n * pw (e + 2200).toNat = X at *
        generalize n' * pw (e' + 2200).toNat = Y at *
        cases a <;> cases a' <;> simp at hv ⊢ <;> omega
      rw [this]
  · obtain ⟨a, n, e, h1, _⟩ := h
    obtain ⟨a', n', e', h1', _⟩ := h'
    unfold Ieee.Format.mul
    rw [k, h1, h1']
    rfl

theorem word_abs (s : Bool) (r : Nat) (h : r ≤ top) : absW (Ieee.double.word s r) = Ieee.double.word false r := by
  have q52 := pw_52
  have ht : top = 9218868437227405312 := by unfold top; rw [q52]
  unfold absW Ieee.Format.word
  have e1 : Ieee.double.signWeight = 9223372036854775808 := by decide
  rw [e1]
  cases s
  · simp only [Bool.false_eq_true, if_false]; omega
  · simp only [if_true, Bool.false_eq_true, if_false]; omega
def cw (M : Nat) : Nat := Ieee.double.word false (min (rg M) top)
theorem abs_rn {w : Int} {r : Nat} (h : RN w r) : absW r = cw w.natAbs := by
  obtain ⟨s, rfl, _⟩ := h
  exact word_abs s _ (Nat.min_le_right ..)
theorem cw_fl {M : Nat} (h : Rp M) (h2 : M < pw 3224) : Fl (cw M) M :=
  RN.exact (w := (M : Int)) (r := cw M) ⟨false, by unfold cw; rw [Int.natAbs_natCast], fun _ => by rw [decide_eq_false (by omega)]⟩ (by rwa [Int.natAbs_natCast]) (by rwa [Int.natAbs_natCast])

/-- what is a number -/
def valO (b : Nat) : Option Int := match Ieee.double.read b with | .number s m e => some (Ieee.signed s (m * pw (e + 2200).toNat) 0) | _ => none
theorem valO_fl {b : Nat} {v : Int} (h : Fl b v) : valO b = some v := by
  obtain ⟨s, m, e, h1, _, _, _, rfl⟩ := h
  unfold valO; rw [h1]
theorem valO_nan {b : Nat} (h : Nn b) : valO b = none := by obtain ⟨s, t, h⟩ := h; unfold valO; rw [h]

def nearV (u v : Int) (p : Nat) : Bool := leO (cw (u - v).natAbs) (Ieee.double.mul p (cw (max u.natAbs v.natAbs)))
def nearB (a b p : Nat) : Bool := if infB a || infB b then (FloatKind.f64.format.order a b == some .eq) else
  match valO a, valO b with | some u, some v => nearV u v p | _, _ => false

theorem max_rp {a b : Nat} {u v : Int} (h : Fl a u) (k : Fl b v) : Fl (cw (max u.natAbs v.natAbs)) (max u.natAbs v.natAbs : Nat) := by
  rcases Nat.le_total u.natAbs v.natAbs with c | c
  · rw [Nat.max_eq_right c]; exact cw_fl k.rp k.lt
  · rw [Nat.max_eq_left c]; exact cw_fl h.rp h.lt

section
variable (a b p : Nat) (ha : a < 18446744073709551616) (hb : b < 18446744073709551616) (w : World)
include ha hb

theorem near_inf (hi : (infB a || infB b) = true) : Calls Tryd.prog 16 #[.float .f64 a, .float .f64 b, .float .f64 p] w fun e w' => e = .returned (.bool (FloatKind.f64.format.order a b == some .eq)) ∧ Fr No w w' := by
  have H1 := Lib.hid fun W => isInf0_any a ha W
  have H2 := Lib.hid fun W => isInf0_any b hb W
  have h3 : (FloatKind.f64.format.order a b == some .eq) = (FloatKind.f64.format.order a b == some .eq) := rfl
  generalize hx : infB a = x at *
  generalize hy : infB b = y at *
  clear hx hy
  cases x
  · obtain rfl : y = true := hi
    go_enter Tryd.func16, Tryd.ntmps16
    go_wp2_with fail
    refine (H1.out _).mono ?_
    rintro e w2 ⟨rfl, rfl⟩
    go_wp2_with fail
    refine (H2.out _).mono ?_
    rintro e w2 ⟨rfl, rfl⟩
    go_wp2
    go_ret
    exact ⟨rfl, Fr.refl _ _⟩
  · go_enter Tryd.func16, Tryd.ntmps16
    go_wp2_with fail
    refine (H1.out _).mono ?_
    rintro e w2 ⟨rfl, rfl⟩
    go_wp2
    go_ret
    exact ⟨rfl, Fr.refl _ _⟩

/-- the rest of Near: what it takes, and what comes out of it -/
theorem near_fin (hi : infB a = false) (hj : infB b = false) (B : Bool)
    (hB : ∀ r m q, OpR (Ieee.double.sub a b) r → m = maxW (absW a) (absW b) → OpR (Ieee.double.mul p m) q → (FloatKind.f64.format.order (absW r) q == some .lt || FloatKind.f64.format.order (absW r) q == some .eq) = B) :
    Calls Tryd.prog 16 #[.float .f64 a, .float .f64 b, .float .f64 p] w fun e w' => e = .returned (.bool B) ∧ Fr No w w' := by
  have H1 := Lib.hid fun W => isInf0_any a ha W
  have H2 := Lib.hid fun W => isInf0_any b hb W
  have H3 := Lib.hid fun W => abs_any a ha W
  have H4 := Lib.hid fun W => abs_any b hb W
  rw [hi] at H1
  rw [hj] at H2
  have o1 := run_op Tryd.prog 22 .sub a b (.inr (.inl rfl)) w
  have o2 := fv_op .sub a b w
  have o3 := fw_fr .sub a b (Fr.refl No w)
  have o4 := fv_lt .sub a b w
  rw [show floatBits .sub .f64 a b = Ieee.double.sub a b from rfl] at o2
  generalize fv .sub a b w = r at *
  generalize fw .sub a b w = W1 at *
  have H5 := Lib.hid fun W => abs_any r o4 W
  have H6 := Lib.hid fun W => max_any (absW a) (absW b) W
  have hB := fun q => hB r (maxW (absW a) (absW b)) q
  generalize maxW (absW a) (absW b) = m at *
  have p1 := run_op Tryd.prog 22 .mul p m (.inr (.inr (.inl rfl))) W1
  have p2 := fv_op .mul p m W1
  have p3 := fw_fr .mul p m o3
  rw [show floatBits .mul .f64 p m = Ieee.double.mul p m from rfl] at p2
  have hB := hB _ o2 rfl p2
  generalize fv .mul p m W1 = q at *
  generalize fw .mul p m W1 = W2 at *
  have P3 := Lib.hid p3
  clear o2 p2 p3 o3 o4 hi hj ha hb
  generalize absW a = a1 at *
  generalize absW b = b1 at *
  generalize absW r = r1 at *
  go_enter Tryd.func16, Tryd.ntmps16
  go_wp2_with fail
  refine (H1.out _).mono ?_
  rintro e w2 ⟨rfl, rfl⟩
  go_wp2_with fail
  refine (H2.out _).mono ?_
  rintro e w2 ⟨rfl, rfl⟩
  go_wp2_with fail
  refine (H5.out _).mono ?_
  rintro e w2 ⟨rfl, rfl⟩
  go_wp2_with fail
  refine (H3.out _).mono ?_
  rintro e w2 ⟨rfl, rfl⟩
  go_wp2_with fail
  refine (H4.out _).mono ?_
  rintro e w2 ⟨rfl, rfl⟩
  go_wp2_with fail
  refine (H6.out _).mono ?_
  rintro e w2 ⟨rfl, rfl⟩
  go_wp2
  go_ret
  exact ⟨rfl, P3.out⟩
end

theorem sub_nan {a b : Nat} (h : Nn a ∨ Nn b) : Ieee.double.sub a b = none := by
  unfold Ieee.Format.sub
  rcases h with ⟨s, t, h⟩ | ⟨s, t, h⟩
  · rw [h]; rfl
  · rw [h]; cases Ieee.double.read a <;> rfl
theorem near_any (a b p : Nat) (ha : a < 18446744073709551616) (hb : b < 18446744073709551616) (w : World) : Calls Tryd.prog 16 #[.float .f64 a, .float .f64 b, .float .f64 p] w fun e w' => e = .returned (.bool (nearB a b p)) ∧ Fr No w w' := by
  by_cases hi : (infB a || infB b) = true
  · unfold nearB; rw [if_pos hi]
    exact near_inf a b p ha hb w hi
  · have hi' : infB a = false ∧ infB b = false := by simpa using hi
    refine near_fin a b p ha hb w hi'.1 hi'.2 _ fun r m q h1 h2 h3 => ?_
    unfold nearB; rw [if_neg hi]
    rcases kinds a with ⟨u, ka⟩ | ⟨s, ka⟩ | ka
    · rcases kinds b with ⟨v, kb⟩ | ⟨s, kb⟩ | kb
      · rw [valO_fl ka, valO_fl kb, leO_op h3]
        obtain ⟨r0, e0, hr⟩ := ka.sub kb
        rw [e0] at h1
        obtain rfl : r = r0 := h1
        show _ = nearV u v p
        unfold nearV
        rw [abs_rn hr, h2]
        refine mul_cong p (v := (max u.natAbs v.natAbs : Nat)) ?_ (max_rp ka kb) _
        have := max_fl (abs_fl ka) (abs_fl kb)
        rwa [show max (u.natAbs : Int) (v.natAbs : Int) = (max u.natAbs v.natAbs : Nat) by omega] at this
      · rw [infB_inf kb] at hi'; exact absurd hi'.2 (by simp)
      · rw [sub_nan (.inr kb)] at h1
        rw [valO_nan kb, fmt, ord_nan_l (abs_nan h1)]
        cases valO a <;> rfl
    · rw [infB_inf ka] at hi'; exact absurd hi'.1 (by simp)
    · rw [sub_nan (.inl ka)] at h1
      rw [valO_nan ka, fmt, ord_nan_l (abs_nan h1)]
      cases valO b <;> rfl

/-! ### the document's -/
/-- the sign taken off where the number is less than 0 -/
def posW (b : Nat) : Nat := if FloatKind.f64.format.order b 0 == some .lt then Op.negFloat .f64 b else b
theorem posW_fl {b : Nat} {v : Int} (hb : b < 18446744073709551616) (h : Fl b v) : Fl (posW b) v.natAbs := by
  unfold posW
  rw [lt_fl h fl_zero]
  by_cases c : v < 0
  · rw [if_pos (decide_eq_true c), show (v.natAbs : Int) = -v by omega]; exact neg_fl hb h
  · rw [if_neg (by simpa using c), show (v.natAbs : Int) = v by omega]; exact h
theorem posW_ord {r : Nat} (hr : r < 18446744073709551616) (q : Nat) : Ieee.double.order (posW r) q = Ieee.double.order (absW r) q := by
  rcases kinds r with ⟨v, h⟩ | ⟨s, h⟩ | h
  · exact ord_l (posW_fl hr h) (abs_fl h) q
  · refine ord_read ?_ q
    rw [show Ieee.double.read (absW r) = _ from abs_inf h]
    unfold posW
    rw [fmt, ord_inf_l h fl_zero]
    cases s
    · exact h
    · exact neg_inf hr h
  · unfold posW
    rw [fmt, ord_nan_l h, if_neg (by simp), ord_nan_l h, ord_nan_l (abs_nan h)]

section
variable (a b p : Nat) (ha : a < 18446744073709551616) (hb : b < 18446744073709551616) (w : World)
include ha hb
omit ha hb in
theorem refnear_nan (hn : nanB a = true ∨ nanB b = true) : Calls Tryd.prog 17 #[.float .f64 a, .float .f64 b, .float .f64 p] w fun e w' => e = .returned (.bool false) ∧ Fr No w w' := by
  unfold nanB at hn
  by_cases c : (FloatKind.f64.format.order a a != some .eq) = true
  · go_enter Tryd.func17, Tryd.ntmps17
    go_wp2
    go_ret
    exact ⟨rfl, Fr.refl _ _⟩
  · have h2 := hn.resolve_left c
    have h1 : (FloatKind.f64.format.order a a != some .eq) = false := by simpa using c
    clear c hn
    go_enter Tryd.func17, Tryd.ntmps17
    go_wp2
    go_ret
    exact ⟨rfl, Fr.refl _ _⟩
theorem refnear_inf (h1 : nanB a = false) (h2 : nanB b = false) (hi : (infB a || infB b) = true) : Calls Tryd.prog 17 #[.float .f64 a, .float .f64 b, .float .f64 p] w fun e w' => e = .returned (.bool (FloatKind.f64.format.order a b == some .eq)) ∧ Fr No w w' := by
  unfold nanB at h1 h2
  have H1 := Lib.hid fun W => isInf0_any a ha W
  have H2 := Lib.hid fun W => isInf0_any b hb W
  generalize hx : infB a = x at *
  generalize hy : infB b = y at *
  clear hx hy
  cases x
  · obtain rfl : y = true := hi
    go_enter Tryd.func17, Tryd.ntmps17
    go_wp2_with fail
    refine (H1.out _).mono ?_
    rintro e w2 ⟨rfl, rfl⟩
    go_wp2_with fail
    refine (H2.out _).mono ?_
    rintro e w2 ⟨rfl, rfl⟩
    go_wp2
    go_ret
    exact ⟨rfl, Fr.refl _ _⟩
  · go_enter Tryd.func17, Tryd.ntmps17
    go_wp2_with fail
    refine (H1.out _).mono ?_
    rintro e w2 ⟨rfl, rfl⟩
    go_wp2
    go_ret
    exact ⟨rfl, Fr.refl _ _⟩
set_option maxHeartbeats 1000000 in
theorem refnear_num (h1 : nanB a = false) (h2 : nanB b = false) (hi : infB a = false) (hj : infB b = false) (B : Bool)
    (hB : ∀ r q, OpR (Ieee.double.sub a b) r → r < 18446744073709551616 → OpR (Ieee.double.mul p (if FloatKind.f64.format.order (posW b) (posW a) == some .gt then posW b else posW a)) q → (FloatKind.f64.format.order (posW r) q == some .lt || FloatKind.f64.format.order (posW r) q == some .eq) = B) :
    Calls Tryd.prog 17 #[.float .f64 a, .float .f64 b, .float .f64 p] w fun e w' => e = .returned (.bool B) ∧ Fr No w w' := by
  unfold nanB at h1 h2
  have H1 := Lib.hid fun W => isInf0_any a ha W
  have H2 := Lib.hid fun W => isInf0_any b hb W
  rw [hi] at H1
  rw [hj] at H2
  have o1 := run_op Tryd.prog 22 .sub a b (.inr (.inl rfl)) w
  have o2 := fv_op .sub a b w
  have o3 := fw_fr .sub a b (Fr.refl No w)
  have o4 := fv_lt .sub a b w
  rw [show floatBits .sub .f64 a b = Ieee.double.sub a b from rfl] at o2
  generalize fv .sub a b w = r at *
  generalize fw .sub a b w = W1 at *
  have n1 := fun W => neg_fact a W
  have n2 := fun W => neg_fact b W
  have n3 := fun W => neg_fact r W
  have hB := hB r
  unfold posW at hB
  generalize hm : (if FloatKind.f64.format.order (if FloatKind.f64.format.order b 0 == some .lt then Op.negFloat .f64 b else b) (if FloatKind.f64.format.order a 0 == some .lt then Op.negFloat .f64 a else a) == some .gt then (if FloatKind.f64.format.order b 0 == some .lt then Op.negFloat .f64 b else b) else (if FloatKind.f64.format.order a 0 == some .lt then Op.negFloat .f64 a else a)) = m at hB
  have p1 := run_op Tryd.prog 22 .mul p m (.inr (.inr (.inl rfl))) W1
  have p2 := fv_op .mul p m W1
  have p3 := fw_fr .mul p m o3
  rw [show floatBits .mul .f64 p m = Ieee.double.mul p m from rfl] at p2
  have hB := hB _ o2 o4 p2
  generalize fv .mul p m W1 = q at *
  generalize fw .mul p m W1 = W2 at *
  have P3 := Lib.hid p3
  clear o2 p2 p3 o3 o4 hi hj ha hb
  generalize Op.negFloat .f64 a = a1 at *
  generalize Op.negFloat .f64 b = b1 at *
  generalize Op.negFloat .f64 r = r1 at *
  generalize hc1 : (FloatKind.f64.format.order a 0 == some .lt) = c1 at *
  generalize hc2 : (FloatKind.f64.format.order b 0 == some .lt) = c2 at *
  generalize hc3 : (FloatKind.f64.format.order r 0 == some .lt) = c3 at *
  cases c1 <;> cases c2 <;> cases c3
  all_goals
    simp only [if_true, if_false, Bool.false_eq_true] at hm hB
    generalize hc4 : (FloatKind.f64.format.order _ _ == some .gt) = c4 at hm
    cases c4
  all_goals
    simp only [if_true, if_false, Bool.false_eq_true] at hm
    subst hm
    go_enter Tryd.func17, Tryd.ntmps17
    go_wp2_with fail
    refine (H1.out _).mono ?_
    rintro e w2 ⟨rfl, rfl⟩
    go_wp2_with fail
    refine (H2.out _).mono ?_
    rintro e w2 ⟨rfl, rfl⟩
    go_wp2
    go_ret
    exact ⟨rfl, P3.out⟩
end
theorem refnear_any (a b p : Nat) (ha : a < 18446744073709551616) (hb : b < 18446744073709551616) (w : World) : Calls Tryd.prog 17 #[.float .f64 a, .float .f64 b, .float .f64 p] w fun e w' => e = .returned (.bool (nearB a b p)) ∧ Fr No w w' := by
  by_cases hn : nanB a = true ∨ nanB b = true
  · have : nearB a b p = false := by
      have hk : Nn a ∨ Nn b := by
        rcases kinds a with ⟨u, ka⟩ | ⟨s, ka⟩ | ka
        · rcases kinds b with ⟨v, kb⟩ | ⟨s, kb⟩ | kb
          · rw [nanB_fl ka, nanB_fl kb] at hn; simp at hn
          · rw [nanB_fl ka, nanB_inf kb] at hn; simp at hn
          · exact .inr kb
        · rcases kinds b with ⟨v, kb⟩ | ⟨s, kb⟩ | kb
          · rw [nanB_inf ka, nanB_fl kb] at hn; simp at hn
          · rw [nanB_inf ka, nanB_inf kb] at hn; simp at hn
          · exact .inr kb
        · exact .inl ka
      have ho : (FloatKind.f64.format.order a b == some .eq) = false := by
        rw [fmt]; rcases hk with k | k
        · rw [ord_nan_l k]; rfl
        · rw [ord_nan_r k]; rfl
      unfold nearB
      rw [ho]
      split
      · rfl
      · rcases hk with k | k
        · rw [valO_nan k]
        · rw [valO_nan k]; cases valO a <;> rfl
    rw [this]
    exact refnear_nan a b p w hn
  · have h1 : nanB a = false := by simpa using fun h => hn (.inl h)
    have h2 : nanB b = false := by simpa using fun h => hn (.inr h)
    by_cases hi : (infB a || infB b) = true
    · unfold nearB; rw [if_pos hi]
      exact refnear_inf a b p ha hb w h1 h2 hi
    · have hi' : infB a = false ∧ infB b = false := by simpa using hi
      refine refnear_num a b p ha hb w h1 h2 hi'.1 hi'.2 _ fun r q g1 g2 g3 => ?_
      unfold nearB; rw [if_neg hi]
      rcases kinds a with ⟨u, ka⟩ | ⟨s, ka⟩ | ka
      · rcases kinds b with ⟨v, kb⟩ | ⟨s, kb⟩ | kb
        · rw [valO_fl ka, valO_fl kb]
          obtain ⟨r0, e0, hr⟩ := ka.sub kb
          rw [e0] at g1
          obtain rfl : r = r0 := g1
          show _ = nearV u v p
          unfold nearV
          rw [fmt, posW_ord g2, ← fmt, leO_op g3, abs_rn hr]
          refine mul_cong p (v := (max u.natAbs v.natAbs : Nat)) ?_ (max_rp ka kb) _
          have pa := posW_fl ha ka
          have pb := posW_fl hb kb
          rw [gt_fl pb pa]
          by_cases c : (u.natAbs : Int) < v.natAbs
          · rw [if_pos (decide_eq_true c), show max u.natAbs v.natAbs = v.natAbs by omega]; exact pb
          · rw [if_neg (by simpa using c), show max u.natAbs v.natAbs = u.natAbs by omega]; exact pa
        · rw [infB_inf kb] at hi'; exact absurd hi'.2 (by simp)
        · rw [nanB_nan kb] at h2; cases h2
      · rw [infB_inf ka] at hi'; exact absurd hi'.1 (by simp)
      · rw [nanB_nan ka] at h1; cases h1
end Go.Proofs.YtdmjnheohjegdaaDoor
