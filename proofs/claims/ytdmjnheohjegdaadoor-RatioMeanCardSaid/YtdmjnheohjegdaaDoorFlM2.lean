/- How the document's Round finds the nearest whole number. Of no program. -/
import Derived.Test.YtdmjnheohjegdaaDoorFl1
namespace Go.My.Fl
open Go Ieee
set_option linter.unusedVariables false
set_option linter.unusedSimpArgs false

theorem pw52U : ((pw 52 : Nat) : Int) * U = (pw 2252 : Nat) := by unfold U; rw [← Int.natCast_mul, ← pw_add]
/-- far out all numbers are whole -/
theorem big_whole {b : Nat} {v : Int} (h : Fl b v) (hv : 4503599627370496 * U ≤ v.natAbs) : ∃ k, v = k * U := by
  obtain ⟨m, j, hm, hj, e⟩ := h.rp
  have h52 := pw52U
  rw [pw_52] at h52
  have hv' : pw 2252 ≤ v.natAbs := by
    have : ((4503599627370496 : Nat) : Int) = 4503599627370496 := rfl
    rw [this] at h52
    omega
  suffices ∃ k : Nat, v.natAbs = k * pw 2200 by
    obtain ⟨k, hk⟩ := this
    unfold U
    by_cases c : 0 ≤ v
    · exact ⟨k, by rw [← Int.natCast_mul]; omega⟩
    · exact ⟨-k, by rw [Int.neg_mul, ← Int.natCast_mul]; omega⟩
  by_cases c : 2200 ≤ j
  · exact ⟨m * pw (j - 2200), by rw [e, Nat.mul_assoc, ← pw_add, show j - 2200 + 2200 = j by omega]⟩
  · have h1 : m * pw j ≤ pw 53 * pw 2199 := Nat.mul_le_mul hm (pw_le (by omega))
    rw [← pw_add, show 53 + 2199 = 2252 from rfl] at h1
    exact ⟨pw 52, by rw [← pw_add, show 52 + 2200 = 2252 from rfl]; omega⟩
theorem tmod_rp {b : Nat} {v : Int} (h : Fl b v) : Rp (v.tmod U).natAbs ∧ (v.tmod U).natAbs < pw 3224 := by
  obtain ⟨m, j, hm, hj, e⟩ := h.rp
  have h1 : (v.tmod U).natAbs = v.natAbs % pw 2200 := by unfold U; rw [Int.natAbs_tmod, Int.natAbs_natCast]
  rw [h1]
  refine ⟨?_, Nat.lt_trans (Nat.mod_lt _ (pw_pos _)) (pw_lt (by omega))⟩
  rw [e]
  by_cases c : 2200 ≤ j
  · refine ⟨0, 1126, by omega, by omega, ?_⟩
    rw [show j = (j - 2200) + 2200 by omega, pw_add, ← Nat.mul_assoc, Nat.mul_mod_left]; omega
  · refine ⟨m % pw (2200 - j), j, Nat.le_trans (Nat.mod_le _ _) hm, hj, ?_⟩
    have : pw 2200 = pw (2200 - j) * pw j := by rw [← pw_add]; congr 1; omega
    rw [this, Nat.mul_mod_mul_right]
theorem natAbs_U : U.natAbs = pw 2200 := by unfold U; exact Int.natAbs_natCast _
theorem rp_U : Rp U.natAbs ∧ U.natAbs < pw 3224 := by
  rw [natAbs_U]; exact ⟨⟨1, 2200, by have := pw_pos 53; omega, by omega, by omega⟩, pw_lt (by omega)⟩
theorem rp_Hf : Rp Hf.natAbs ∧ Hf.natAbs < pw 3224 := by
  have : Hf.natAbs = pw 2199 := by unfold Hf; exact Int.natAbs_natCast _
  rw [this]; exact ⟨⟨1, 2199, by have := pw_pos 53; omega, by omega, by omega⟩, pw_lt (by omega)⟩
/-- one less than a number with a rest below 0 -/
theorem below_rest {b : Nat} {v : Int} (h : Fl b v) (hn : v.tmod U < 0) {r : Nat} (hr : RN (U + v.tmod U) r) : ∃ x, Fl r x ∧ (Hf ≤ v.natAbs → x = U + v.tmod U) ∧ (¬ Hf ≤ v.natAbs → Hf ≤ x ∧ v.tdiv U = 0 ∧ v.tmod U = v) := by
  have hU := U_pos
  have h2 := U_two
  have hlt : -U < v.tmod U := by have := Int.lt_tmod_of_pos v hU; omega
  obtain ⟨x, hx⟩ := hr.fl rp_U.1 rp_U.2 (by omega)
  refine ⟨x, hx, fun hc => ?_, fun hc => ?_⟩
  · have hd := hr.exact ?_ ?_
    · exact hx.uniq hd
    · obtain ⟨m, j, hm, hj, e⟩ := h.rp
      have h1 : (v.tmod U).natAbs = v.natAbs % pw 2200 := by unfold U; rw [Int.natAbs_tmod, Int.natAbs_natCast]
      have h3 : (U + v.tmod U).natAbs = pw 2200 - v.natAbs % pw 2200 := by
        have : U = ((pw 2200 : Nat) : Int) := rfl
        omega
      rw [h3]
      have hH : Hf = ((pw 2199 : Nat) : Int) := rfl
      have hc' : pw 2199 ≤ m * pw j := by omega
      have h0 : v.natAbs % pw 2200 ≠ 0 := by omega
      rw [e] at h0 ⊢
      by_cases c : 2200 ≤ j
      · exfalso; apply h0
        rw [show j = (j - 2200) + 2200 by omega, pw_add, ← Nat.mul_assoc, Nat.mul_mod_left]
      · have e1 : pw 2200 = pw (2200 - j) * pw j := by rw [← pw_add]; congr 1; omega
        rw [e1, Nat.mul_mod_mul_right] at h0 ⊢
        refine ⟨pw (2200 - j) - m % pw (2200 - j), j, ?_, hj, by rw [Nat.sub_mul]⟩
        by_cases c2 : 2147 ≤ j
        · have := pw_le (show 2200 - j ≤ 53 by omega); omega
        · have c3 : 2146 ≤ j := by
            apply Nat.le_of_not_lt; intro hh
            have q1 : m * pw j ≤ pw 53 * pw 2145 := Nat.mul_le_mul hm (pw_le (by omega))
            rw [← pw_add] at q1
            have q2 : pw (53 + 2145) < pw 2199 := pw_lt (by omega)
            omega
          obtain rfl : j = 2146 := by omega
          have q1 : m = pw 53 := by
            have q2 : pw 2199 = pw 53 * pw 2146 := by rw [← pw_add]
            rw [q2] at hc'
            have := Nat.le_of_mul_le_mul_right hc' (pw_pos _)
            omega
          rw [q1, show 2200 - 2146 = 54 from rfl, Nat.mod_eq_of_lt (pw_lt (by omega)), pw_succ 53]; omega
    · have : (U + v.tmod U).natAbs ≤ pw 2200 := by
        have : U = ((pw 2200 : Nat) : Int) := rfl
        omega
      exact Nat.lt_of_le_of_lt this (pw_lt (by omega))
  · have hs : v.natAbs < U := by omega
    have e1 : v.tdiv U = 0 := by
      apply Int.natAbs_eq_zero.1
      rw [Int.natAbs_tdiv, natAbs_U]
      apply Nat.div_eq_of_lt
      have : U = ((pw 2200 : Nat) : Int) := rfl
      omega
    have e2 := (rndI_parts v).1
    rw [e1, Int.zero_mul] at e2
    refine ⟨hr.ge rp_Hf.1 hx ?_, e1, by omega⟩
    omega
/-- what the document's Round tells, of numbers that are not far out -/
theorem odd2 (n : Int) : n.tmod 2 ≠ 0 ↔ n % 2 ≠ 0 :=
  ⟨fun h k => h (Int.tmod_eq_zero_of_dvd (Int.dvd_of_emod_eq_zero k)), fun h k => h (Int.emod_eq_zero_of_dvd (Int.dvd_of_tmod_eq_zero k))⟩
theorem round_up {v : Int} (h : ¬ v.tmod U < 0) : rndI v = v.tdiv U + (if Hf < v.tmod U ∨ (v.tmod U = Hf ∧ (v.tdiv U).tmod 2 ≠ 0) then 1 else 0) := by
  have h2 := U_two
  have hU := U_pos
  by_cases c : 0 ≤ v
  · rw [((rndI_parts v).2 c).2.2]
    have : (v.tdiv U % 2 ≠ 0) ↔ ((v.tdiv U).tmod 2 ≠ 0) := by
      exact (odd2 _).symm
    congr 1
    simp only [← this]
    have e1 : (U < 2 * v.tmod U ∨ U = 2 * v.tmod U ∧ v.tdiv U % 2 ≠ 0) ↔ (Hf < v.tmod U ∨ v.tmod U = Hf ∧ v.tdiv U % 2 ≠ 0) := by omega
    simp only [e1]
  · have h0 : v.tmod U = 0 := by
      have h3 := Int.tmod_nonneg U (a := -v) (by omega)
      rw [Int.neg_tmod] at h3
      omega
    have e := (rndI_parts v).1
    rw [h0] at e ⊢
    rw [if_neg (by have := Hf_pos; omega), Int.add_zero]
    have e' : v = v.tdiv U * U := by omega
    generalize v.tdiv U = n at *
    rw [e', rndI_int]
theorem round_down {b : Nat} {v : Int} (h : Fl b v) (hn : v.tmod U < 0) {r : Nat} (hr : RN (U + v.tmod U) r) :
    ∃ x, Fl r x ∧ rndI v = (v.tdiv U - 1) + (if Hf < x ∨ (x = Hf ∧ (v.tdiv U - 1).tmod 2 ≠ 0) then 1 else 0) := by
  obtain ⟨x, hx, h1, h2⟩ := below_rest h hn hr
  refine ⟨x, hx, ?_⟩
  have hU2 := U_two
  have hH := Hf_pos
  have hv : v < 0 := by
    apply Int.lt_of_not_ge; intro hh
    have := Int.tmod_nonneg U hh
    omega
  have e3 : rndI v = v.tdiv U - (if Hf < -v.tmod U ∨ (-v.tmod U = Hf ∧ (v.tdiv U) % 2 ≠ 0) then 1 else 0) := by
    have := ((rndI_parts (-v)).2 (by omega)).2.2
    rw [Int.neg_tdiv, Int.neg_tmod, rndI_neg] at this
    have e1 : (U < 2 * -v.tmod U ∨ U = 2 * -v.tmod U ∧ -v.tdiv U % 2 ≠ 0) ↔ (Hf < -v.tmod U ∨ -v.tmod U = Hf ∧ v.tdiv U % 2 ≠ 0) := by omega
    simp only [e1] at this
    omega
  rw [e3]
  by_cases c : Hf ≤ v.natAbs
  · have hx1 := h1 c
    rw [hx1]
    have hm : (v.tdiv U - 1).tmod 2 ≠ 0 ↔ ¬ (v.tdiv U % 2 ≠ 0) := by
      rw [odd2]
      generalize v.tdiv U = n
      omega
    simp only [hm]
    generalize v.tdiv U = n at *
    generalize v.tmod U = t at *
    split <;> split <;> omega
  · obtain ⟨g1, g2, g3⟩ := h2 c
    rw [g2, g3]
    rw [if_neg (by omega), if_pos]
    · rfl
    · by_cases q : Hf < x
      · exact .inl q
      · exact .inr ⟨by omega, by decide⟩
end Go.My.Fl
