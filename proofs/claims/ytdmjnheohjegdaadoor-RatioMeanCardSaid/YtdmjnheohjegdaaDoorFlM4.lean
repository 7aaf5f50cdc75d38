/- How near things stand to each other. -/
import Derived.Test.YtdmjnheohjegdaaDoorFl5
namespace Go.Proofs.YtdmjnheohjegdaaDoor
open Go.RowKit Go.My Go.My.Fl
set_option linter.unusedSimpArgs false
set_option linter.unusedVariables false

/-! ### how near things stand to each other -/
theorem eq_comm_ord (a b : Nat) : (FloatKind.f64.format.order a b == some .eq) = (FloatKind.f64.format.order b a == some .eq) := by
  rw [fmt]
  rcases kinds a with ⟨u, ka⟩ | ⟨s, ka⟩ | ka
  · rcases kinds b with ⟨v, kb⟩ | ⟨s, kb⟩ | kb
    · rw [← fmt, eq_fl ka kb, eq_fl kb ka]; exact decide_eq_decide.2 eq_comm
    · rw [ord_inf_r ka kb, ord_inf_l kb ka]; cases s <;> rfl
    · rw [ord_nan_r kb, ord_nan_l kb]
  · rcases kinds b with ⟨v, kb⟩ | ⟨t, kb⟩ | kb
    · rw [ord_inf_l ka kb, ord_inf_r kb ka]; cases s <;> rfl
    · rw [ord_inf ka kb, ord_inf kb ka]; cases s <;> cases t <;> rfl
    · rw [ord_nan_r kb, ord_nan_l kb]
  · rw [ord_nan_l ka, ord_nan_r ka]
theorem nearV_comm (u v : Int) (p : Nat) : nearV u v p = nearV v u p := by
  unfold nearV
  rw [show (u - v).natAbs = (v - u).natAbs by omega, Nat.max_comm]
theorem nearB_comm (a b p : Nat) : nearB a b p = nearB b a p := by
  unfold nearB
  rw [Bool.or_comm, eq_comm_ord]
  split
  · rfl
  · cases valO a with
    | none => cases valO b <;> rfl
    | some u => cases valO b with
      | none => rfl
      | some v => exact nearV_comm u v p
theorem zero_mul_fl {m : Nat} {v : Int} (h : Fl m v) : ∃ r, Ieee.double.mul 0 m = some r ∧ Fl r 0 := by
  obtain ⟨r, w, e, h1, h2⟩ := fl_zero.mul h
  rw [Int.zero_mul] at h2
  have : w = 0 := (Int.mul_eq_zero.1 h2).resolve_right (by have := U_pos; omega)
  subst this
  exact ⟨r, e, rn_zero h1⟩
theorem cw_zero : Fl (cw 0) 0 := cw_fl (M := 0) ⟨0, 1126, Nat.zero_le _, Nat.le_refl _, (Nat.zero_mul _).symm⟩ (pw_pos _)
theorem leO_zero {d r : Nat} (h : Fl d 0) (k : Fl r 0) : leO d (some r) = true := by
  unfold leO
  simp only
  rw [le_fl h k]
  exact decide_eq_true (Int.le_refl _)
theorem nearV_self {a : Nat} {u : Int} (ka : Fl a u) : nearV u u 0 = true := by
  unfold nearV
  obtain ⟨r, e, hr⟩ := zero_mul_fl (max_rp ka ka)
  rw [e]
  have e0 : (u - u).natAbs = 0 := by omega
  rw [e0]
  exact leO_zero cw_zero hr
theorem nearB_num {a b : Nat} {u v : Int} (ka : Fl a u) (kb : Fl b v) (p : Nat) : nearB a b p = nearV u v p := by
  unfold nearB
  rw [infB_fl ka, infB_fl kb, valO_fl ka, valO_fl kb, if_neg (by decide)]
theorem nearB_self (a : Nat) : nearB a a 0 = (FloatKind.f64.format.order a a == some .eq) := by
  rcases kinds a with ⟨u, ka⟩ | ⟨s, ka⟩ | ka
  · rw [nearB_num ka ka, nearV_self ka, eq_fl ka ka, decide_eq_true rfl]
  · unfold nearB; rw [infB_inf ka, if_pos (by decide)]
  · unfold nearB; rw [infB_nan ka, valO_nan ka, fmt, ord_nan_l ka, if_neg (by decide)]; rfl
theorem fl_mult {b : Nat} {v : Int} (h : Fl b v) : ((pw 1126 : Nat) : Int) ∣ v := by
  obtain ⟨s, m, e, h1, h2, h3, h4, rfl⟩ := h
  have : pw (e + 2200).toNat = pw ((e + 2200).toNat - 1126) * pw 1126 := by rw [← pw_add, show (e + 2200).toNat - 1126 + 1126 = (e + 2200).toNat by omega]
  rw [this, signed_0, ← Nat.mul_assoc]
  have hd : ((pw 1126 : Nat) : Int) ∣ ((m * pw ((e + 2200).toNat - 1126) * pw 1126 : Nat) : Int) := by
    rw [Int.natCast_mul]; exact Int.dvd_mul_left _ _
  split
  · exact Int.dvd_neg.2 hd
  · exact hd
theorem dec_zero (M g : Nat) (hg : g = pw 1126) (h : dec (rg M) = 0) (k : Nat) (hd : M = g * k) : M = 0 := by
  rw [dec_rg] at h
  have hp := pw_pos (lev M)
  have h0 : rne M (pw (lev M)) = 0 := (Nat.mul_eq_zero.1 h).resolve_right (by omega)
  have hl : lev M = 1126 := by
    have h1 := lev_ge M
    have h2 := le_kept M
    have := pw_pos 52
    omega
  have hn := (rne_near M _ hp).2
  rw [h0, hl, ← hg] at hn
  have hg0 : 0 < g := by rw [hg]; exact pw_pos _
  clear hg hl h0 hp h
  by_cases c : k = 0
  · rw [hd, c, Nat.mul_zero]
  · exfalso
    have : g * 1 ≤ g * k := Nat.mul_le_mul_left g (by omega)
    omega
theorem cw_le_zero {M r : Nat} (hr : Fl r 0) (h : (FloatKind.f64.format.order (cw M) r == some .lt || FloatKind.f64.format.order (cw M) r == some .eq) = true) : dec (rg M) = 0 := by
  by_cases ht : rg M < top
  · have f1 : Fl (cw M) (dec (rg M) : Nat) := by
      have := fl_word false _ ht
      unfold cw; rw [Nat.min_eq_left (by omega)]; exact this
    rw [le_fl f1 hr] at h
    have h := of_decide_eq_true h
    omega
  · have f1 : If (cw M) false := by
      unfold cw; rw [Nat.min_eq_right (by omega)]; exact read_top false
    rw [fmt, ord_inf_l f1 hr] at h
    exact absurd h (by decide)
theorem nearV_zero {a b : Nat} {u v : Int} (ka : Fl a u) (kb : Fl b v) (h : nearV u v 0 = true) : u = v := by
  unfold nearV at h
  obtain ⟨r, e, hr⟩ := zero_mul_fl (max_rp ka kb)
  rw [e] at h
  have h1 := cw_le_zero hr h
  obtain ⟨k, hk⟩ := Int.dvd_sub (fl_mult ka) (fl_mult kb)
  have h2 := dec_zero (u - v).natAbs _ rfl h1 k.natAbs (by rw [hk, Int.natAbs_mul, Int.natAbs_natCast])
  clear hk h1 h
  omega
theorem nearB_zero (a b : Nat) (h : nearB a b 0 = true) : (FloatKind.f64.format.order a b == some .eq) = true := by
  by_cases hi : (infB a || infB b) = true
  · unfold nearB at h; rw [if_pos hi] at h; exact h
  · rcases kinds a with ⟨u, ka⟩ | ⟨s, ka⟩ | ka
    · rcases kinds b with ⟨v, kb⟩ | ⟨s, kb⟩ | kb
      · rw [nearB_num ka kb] at h
        rw [eq_fl ka kb]
        exact decide_eq_true (nearV_zero ka kb h)
      · rw [infB_inf kb] at hi; simp at hi
      · unfold nearB at h; rw [if_neg hi, valO_nan kb] at h; cases hv : valO a <;> rw [hv] at h <;> cases h
    · rw [infB_inf ka] at hi; simp at hi
    · unfold nearB at h; rw [if_neg hi, valO_nan ka] at h; cases hv : valO b <;> rw [hv] at h <;> cases h
end Go.Proofs.YtdmjnheohjegdaaDoor
