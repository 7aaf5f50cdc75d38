/- Sums times halves, quotients: what they are. Of no function of the program. -/
import Derived.Test.YtdmjnheohjegdaaDoorFlM4
import Derived.Test.YtdmjnheohjegdaaDoorCoinsMath
namespace Go.Proofs.YtdmjnheohjegdaaDoor
open Go.RowKit Go.My Go.My.Fl
set_option linter.unusedSimpArgs false
set_option linter.unusedVariables false
/-! ### sums times simple numbers -/
theorem rp_pw {k : Int} {j : Nat} (h : k.natAbs ≤ pw 53) (hj : 1126 ≤ j) (hj2 : j ≤ 2200) : Rp (k * (pw j : Nat)).natAbs ∧ (k * (pw j : Nat)).natAbs < pw 3224 := by
  rw [Int.natAbs_mul, Int.natAbs_natCast]
  refine ⟨⟨k.natAbs, j, h, hj, rfl⟩, ?_⟩
  have h1 : pw 53 * pw j < pw 3224 := by rw [← pw_add]; exact pw_lt (by omega)
  have h2 := Nat.mul_le_mul_right (pw j) h
  omega
theorem rnd_bound {v : Int} {B : Int} (h : v.natAbs ≤ B * U) : -B - 1 < rndI v ∧ rndI v < B + 1 := by
  have hU := U_pos
  have hr := rndI_near v
  have a1 : rndI v * U < (B + 1) * U := by rw [Int.add_mul]; omega
  have a2 : (-B - 1) * U < rndI v * U := by rw [Int.sub_mul, Int.neg_mul]; omega
  exact ⟨Int.lt_of_mul_lt_mul_right a2 (by omega), Int.lt_of_mul_lt_mul_right a1 (by omega)⟩
theorem times_pw (a k : Int) (j x : Nat) (hx : Fl x (k * (pw j : Nat))) (hj : 1126 ≤ j) (hj2 : j ≤ 2200) (ha : a.natAbs ≤ pw 53) (hak : (a * k).natAbs ≤ pw 53) : timesO a x = some (rndI (a * k * (pw j : Nat))) := by
  have hU := U_pos
  obtain ⟨r, w, e, h1, h2⟩ := (fl_int ha).mul hx
  have e2 : w = a * k * (pw j : Nat) := by
    have : w * U = (a * k * (pw j : Nat)) * U := by rw [h2]; simp only [Int.mul_comm, Int.mul_left_comm, Int.mul_assoc]
    exact Int.eq_of_mul_eq_mul_right (by omega) this
  subst e2
  have hf := h1.exact (rp_pw hak hj hj2).1 (rp_pw hak hj hj2).2
  unfold timesO
  rw [e]
  show rndO r = _
  rw [rndO_fl hf, if_pos]
  have hb : (a * k * (pw j : Nat)).natAbs ≤ (9007199254740992 : Int) * U := by
    rw [Int.natAbs_mul, Int.natAbs_natCast]
    have h3 : (a * k).natAbs * pw j ≤ pw 53 * pw 2200 := Nat.mul_le_mul hak (pw_le hj2)
    rw [pw_53] at h3
    unfold U
    have : ((9007199254740992 : Nat) : Int) = 9007199254740992 := rfl
    rw [← this, ← Int.natCast_mul]
    omega
  have := rnd_bound hb
  unfold inR; omega
theorem fl_one : Fl 4607182418800017408 (1 * (pw 2200 : Nat)) := fl_const 1 _ (by decide) (by decide +kernel)
theorem fl_mone : Fl 13830554455654793216 (-1 * (pw 2200 : Nat)) := fl_const (-1) _ (by decide) (by decide +kernel)
theorem fl_half1 : Fl 4602678819172646912 (1 * (pw 2199 : Nat)) := by rw [Int.one_mul]; exact fl_half
theorem fl_quarter : Fl 4598175219545276416 (1 * (pw 2198 : Nat)) := by
  have h := read_fl 4598175219545276416 (s := false) (m := 4503599627370496) (e := -54) (by decide +kernel)
  have : Ieee.signed false (4503599627370496 * pw (-54 + 2200 : Int).toNat) 0 = 1 * (pw 2198 : Nat) := by
    rw [signed_0, ← pw_52, ← pw_add, Int.one_mul]; rfl
  rwa [this] at h
theorem fl_zero0 : Fl 0 (0 * (pw 2200 : Nat)) := by rw [Int.zero_mul]; exact fl_zero

/-- what RatioOnce asks -/
theorem once_math (a : Int) (ha : a.natAbs < 4503599627370496) : ∃ h q d : Int, timesO a 4607182418800017408 = some a ∧ timesO a 13830554455654793216 = some (-a) ∧ timesO a 0 = some 0 ∧
    timesO a 4602678819172646912 = some h ∧ timesO h 4602678819172646912 = some q ∧ timesO a 4598175219545276416 = some d ∧ -1 ≤ q - d ∧ q - d ≤ 1 ∧ In64 q ∧ In64 d := by
  have hU := U_pos
  have p53 := pw_53
  have hUp : ((pw 2200 : Nat) : Int) = U := rfl
  have e1 : ((pw 2199 : Nat) : Int) = 2 * (pw 2198 : Nat) := by rw [show (2199 : Nat) = 2198 + 1 from rfl, pw_succ 2198]; omega
  have e2 : U = 4 * (pw 2198 : Nat) := by rw [← hUp, show (2200 : Nat) = 2199 + 1 from rfl, pw_succ 2199]; omega
  have hQ : (0 : Int) < (pw 2198 : Nat) := by have := pw_pos 2198; omega
  have n1 := rndI_near (a * 1 * (pw 2199 : Nat))
  have n3 := rndI_near (a * 1 * (pw 2198 : Nat))
  have t4 := times_pw a 1 2199 _ fl_half1 (by omega) (by omega) (by omega) (by omega)
  have t6 := times_pw a 1 2198 _ fl_quarter (by omega) (by omega) (by omega) (by omega)
  generalize rndI (a * 1 * (pw 2199 : Nat)) = h at *
  generalize rndI (a * 1 * (pw 2198 : Nat)) = d at *
  have k1 : -1 ≤ 2 * h - a ∧ 2 * h - a ≤ 1 := by
    rw [e1, e2] at n1
    generalize ((pw 2198 : Nat) : Int) = Q at *
    have e3 : 2 * h * (4 * Q) = 2 * (h * (4 * Q)) := Int.mul_assoc _ _ _
    have e4 : a * (4 * Q) = 2 * (a * (2 * Q)) := by rw [Int.mul_left_comm a 4 Q, Int.mul_left_comm a 2 Q]; omega
    have a1 : (2 * h - a) * (4 * Q) ≤ 1 * (4 * Q) := by rw [Int.sub_mul]; simp only [Int.mul_one, Int.one_mul] at n1 ⊢; omega
    have a2 : -1 * (4 * Q) ≤ (2 * h - a) * (4 * Q) := by rw [Int.sub_mul]; simp only [Int.mul_one, Int.one_mul] at n1 ⊢; omega
    exact ⟨Int.le_of_mul_le_mul_right a2 (by omega), Int.le_of_mul_le_mul_right a1 (by omega)⟩
  have k3 : -2 ≤ 4 * d - a ∧ 4 * d - a ≤ 2 := by
    rw [e2] at n3
    generalize ((pw 2198 : Nat) : Int) = Q at *
    have e3 : 4 * d * Q = d * (4 * Q) := by rw [Int.mul_comm 4 d, Int.mul_assoc]
    have a1 : (4 * d - a) * Q ≤ 2 * Q := by rw [Int.sub_mul]; simp only [Int.mul_one] at n3; omega
    have a2 : -2 * Q ≤ (4 * d - a) * Q := by rw [Int.sub_mul]; simp only [Int.mul_one] at n3; omega
    exact ⟨Int.le_of_mul_le_mul_right a2 (by omega), Int.le_of_mul_le_mul_right a1 (by omega)⟩
  have n2 := rndI_near (h * 1 * (pw 2199 : Nat))
  have t5 := times_pw h 1 2199 _ fl_half1 (by omega) (by omega) (by omega) (by omega)
  generalize rndI (h * 1 * (pw 2199 : Nat)) = q at *
  have k2 : -1 ≤ 2 * q - h ∧ 2 * q - h ≤ 1 := by
    rw [e1, e2] at n2
    generalize ((pw 2198 : Nat) : Int) = Q at *
    have e3 : 2 * q * (4 * Q) = 2 * (q * (4 * Q)) := Int.mul_assoc _ _ _
    have e4 : h * (4 * Q) = 2 * (h * (2 * Q)) := by rw [Int.mul_left_comm h 4 Q, Int.mul_left_comm h 2 Q]; omega
    have a1 : (2 * q - h) * (4 * Q) ≤ 1 * (4 * Q) := by rw [Int.sub_mul]; simp only [Int.mul_one, Int.one_mul] at n2 ⊢; omega
    have a2 : -1 * (4 * Q) ≤ (2 * q - h) * (4 * Q) := by rw [Int.sub_mul]; simp only [Int.mul_one, Int.one_mul] at n2 ⊢; omega
    exact ⟨Int.le_of_mul_le_mul_right a2 (by omega), Int.le_of_mul_le_mul_right a1 (by omega)⟩
  have t1 := times_pw a 1 2200 _ fl_one (by omega) (by omega) (by omega) (by omega)
  have t2 := times_pw a (-1) 2200 _ fl_mone (by omega) (by omega) (by omega) (by omega)
  have t3 := times_pw a 0 2200 _ fl_zero0 (by omega) (by omega) (by omega) (by omega)
  rw [hUp, rndI_int] at t1 t2 t3
  refine ⟨h, q, d, by rw [t1, Int.mul_one], by rw [t2]; congr 1; omega, by rw [t3, Int.mul_zero], t4, t5, t6, by omega, by omega, ?_, ?_⟩
  · unfold In64; omega
  · unfold In64; omega
theorem rn_exactI {k : Int} {r : Nat} (h : RN (k * U) r) (hk : k.natAbs ≤ pw 53) : Fl r (k * U) := h.exact (rp_int hk) (Go.My.Fl.int_lt hk)
/-! ### quotients -/
theorem div_natF {m n E F P more : Nat} (hn : 0 < n) (hE : E + 2200 = P + 1 + F + more) (c : Nat) :
    (c * (n * pw F) * pw (P + 1) ≤ m * pw E * pw 2200 → c * pw (P + 1) ≤ (2 * (m * pw more / n) + (m * pw more % n != 0).toNat) * pw P) ∧
    (m * pw E * pw 2200 ≤ c * (n * pw F) * pw (P + 1) → (2 * (m * pw more / n) + (m * pw more % n != 0).toNat) * pw P ≤ c * pw (P + 1)) := by
  have e1 : m * pw E * pw 2200 = m * pw more * (pw F * pw (P + 1)) := by
    rw [Nat.mul_assoc, ← pw_add, hE, pw_add, pw_add]; simp only [Nat.mul_comm, Nat.mul_left_comm, Nat.mul_assoc]
  have e2 : c * (n * pw F) * pw (P + 1) = c * n * (pw F * pw (P + 1)) := by simp only [Nat.mul_comm, Nat.mul_left_comm, Nat.mul_assoc]
  have hpos : 0 < pw F * pw (P + 1) := Nat.mul_pos (pw_pos _) (pw_pos _)
  have hd := Nat.div_add_mod (m * pw more) n
  have hm := Nat.mod_lt (m * pw more) hn
  have e3 : c * pw (P + 1) = 2 * c * pw P := by rw [pw_succ P]; simp only [Nat.mul_comm, Nat.mul_left_comm, Nat.mul_assoc]
  rw [e1, e2, e3]
  generalize m * pw more = D at *
  refine ⟨fun h => ?_, fun h => ?_⟩
  · have h1 := Nat.le_of_mul_le_mul_right h hpos
    have h2 : c ≤ D / n := (Nat.le_div_iff_mul_le hn).2 h1
    exact Nat.mul_le_mul_right _ (by omega)
  · have h1 := Nat.le_of_mul_le_mul_right h hpos
    refine Nat.mul_le_mul_right _ ?_
    have h2 : D / n ≤ c := Nat.div_le_of_le_mul (by rw [Nat.mul_comm n]; exact h1)
    by_cases z : D / n = c
    · have : D % n = 0 := by rw [z] at hd; rw [Nat.mul_comm] at hd; omega
      rw [this]; simp; omega
    · have : (D % n != 0).toNat ≤ 1 := by cases (D % n != 0) <;> simp
      omega

theorem Fl.divF {a b : Nat} {u v : Int} (h : Fl a u) (k : Fl b v) (hv : 0 < v) (hu : u ≠ 0) : ∃ r w N, Ieee.double.div a b = some r ∧ RN w r ∧
    (∀ c : Int, c * v * (pw N : Nat) ≤ u * U → c * (pw N : Nat) ≤ w) ∧ (∀ c : Int, u * U ≤ c * v * (pw N : Nat) → w ≤ c * (pw N : Nat)) ∧ pw 53 * pw N ≤ w.natAbs := by
  obtain ⟨s, m, e, h1, h2, h3, h4, rfl⟩ := h
  obtain ⟨t, n, f, k1, k2, k3, k4, rfl⟩ := k
  obtain rfl : t = false := by
    cases t
    · rfl
    · rw [signed_0, if_pos rfl] at hv; omega
  have hn : 0 < n := by
    apply Nat.pos_of_ne_zero; rintro rfl
    rw [signed_0] at hv; simp at hv
  have hm : 0 < m := by
    apply Nat.pos_of_ne_zero; rintro rfl
    rw [signed_0] at hu; simp at hu
  unfold Ieee.Format.div
  rw [h1, k1]
  unfold Ieee.Datum.quotient
  simp only
  rw [if_neg (by omega)]
  simp only [Option.map_some, Bool.xor_false]
  unfold Ieee.Format.write
  simp only [show Ieee.double.fractionBits + 2 = 54 from rfl]
  have lm : m.log2 ≤ 52 := log2_lt_of h4
  have ln : n.log2 ≤ 52 := log2_lt_of k4
  rw [nearest_eq _ _ _ (by omega), Nat.shiftLeft_eq, show (2 : Nat) ^ (54 + n.log2 - m.log2) = pw (54 + n.log2 - m.log2) by unfold pw; rfl]
  have hU : U = ((pw 2200 : Nat) : Int) := rfl
  have K := fun c => div_natF (m := m) (n := n) (E := (e + 2200).toNat) (F := (f + 2200).toNat) (P := (e - f - ((54 + n.log2 - m.log2 : Nat) : Int) - 1 + 2200).toNat) (more := 54 + n.log2 - m.log2) hn (by omega) c
  have hbig : pw 53 * pw ((e - f - ((54 + n.log2 - m.log2 : Nat) : Int) - 1 + 2200).toNat + 1) ≤ (2 * (m * pw (54 + n.log2 - m.log2) / n) + (m * pw (54 + n.log2 - m.log2) % n != 0).toNat) * pw (e - f - ((54 + n.log2 - m.log2 : Nat) : Int) - 1 + 2200).toNat := by
    generalize (e - f - ((54 + n.log2 - m.log2 : Nat) : Int) - 1 + 2200).toNat = P
    have bm := log2_bound m hm
    have bn := log2_bound n hn
    have q1 : pw 53 ≤ m * pw (54 + n.log2 - m.log2) / n := by
      refine (Nat.le_div_iff_mul_le hn).2 ?_
      calc pw 53 * n ≤ pw 53 * pw (n.log2 + 1) := Nat.mul_le_mul_left _ (by omega)
        _ = pw m.log2 * pw (54 + n.log2 - m.log2) := by rw [← pw_add, ← pw_add]; congr 1; omega
        _ ≤ _ := Nat.mul_le_mul_right _ bm.1
    rw [pw_succ P, Nat.mul_left_comm, ← Nat.mul_assoc]
    exact Nat.mul_le_mul_right _ (by omega)
  generalize hP : (e - f - ((54 + n.log2 - m.log2 : Nat) : Int) - 1 + 2200).toNat = P at *
  refine ⟨_, _, P + 1, rfl, rn_signed _ _, ?_⟩
  rw [signed_abs]
  simp only [signed_0, Bool.false_eq_true, if_false] at hv ⊢
  generalize (2 * (m * pw (54 + n.log2 - m.log2) / n) + (m * pw (54 + n.log2 - m.log2) % n != 0).toNat) * pw P = Q at *
  generalize n * pw (f + 2200).toNat = V at *
  generalize m * pw (e + 2200).toNat = A at *
  have hT := pw_pos (P + 1)
  generalize pw (P + 1) = T at *
  have K2 : ∀ c : Int, 0 ≤ c → (c * V * T ≤ A * U → c * T ≤ Q) ∧ ((A : Int) * U ≤ c * V * T → (Q : Int) ≤ c * T) := by
    intro c hc
    obtain ⟨c, rfl⟩ := Int.eq_ofNat_of_zero_le hc
    have := K c
    rw [hU, ← Int.natCast_mul, ← Int.natCast_mul, ← Int.natCast_mul, ← Int.natCast_mul]
    omega
  have hUp := U_pos
  have hA0 : 0 ≤ (A : Int) * U := Int.mul_nonneg (by omega) (by omega)
  cases s
  · simp only [Bool.false_eq_true, if_false]
    refine ⟨fun c hc => ?_, fun c hc => ?_, hbig⟩
    · by_cases h0 : 0 ≤ c
      · exact (K2 c h0).1 hc
      · have : c * T ≤ 0 := Int.mul_nonpos_of_nonpos_of_nonneg (by omega) (by omega)
        omega
    · have : 0 ≤ c := by
        apply Int.not_lt.1; intro hh
        have h5 : c * V ≤ -V := by have := Int.mul_le_mul_of_nonneg_right (show c ≤ -1 by omega) (show 0 ≤ (V : Int) by omega); omega
        have h6 : c * V * T ≤ -V * T := Int.mul_le_mul_of_nonneg_right h5 (by omega)
        have h7 : 0 < (V : Int) * T := Int.mul_pos hv (by omega)
        rw [Int.neg_mul] at h6; omega
      exact (K2 c this).2 hc
  · simp only [if_true]
    refine ⟨fun c hc => ?_, fun c hc => ?_, hbig⟩
    · have hc' : (A : Int) * U ≤ -c * V * T := by rw [Int.neg_mul, Int.neg_mul]; rw [Int.neg_mul] at hc; omega
      have : 0 ≤ -c := by
        apply Int.not_lt.1; intro hh
        have h5 : -c * V ≤ -V := by have := Int.mul_le_mul_of_nonneg_right (show -c ≤ -1 by omega) (show 0 ≤ (V : Int) by omega); omega
        have h6 : -c * V * T ≤ -V * T := Int.mul_le_mul_of_nonneg_right h5 (by omega)
        have h7 : 0 < (V : Int) * T := Int.mul_pos hv (by omega)
        rw [Int.neg_mul (V : Int)] at h6; omega
      have := (K2 (-c) this).2 hc'
      rw [Int.neg_mul] at this; omega
    · by_cases h0 : 0 ≤ -c
      · have hc' : -c * V * T ≤ A * U := by rw [Int.neg_mul, Int.neg_mul]; rw [Int.neg_mul] at hc; omega
        have := (K2 (-c) h0).1 hc'
        rw [Int.neg_mul] at this; omega
      · have : 0 ≤ c * T := Int.mul_nonneg (by omega) (by omega)
        omega
/-- the quotient lies near what it should be -/
theorem div_close {u v w : Int} {T : Nat} (hT : 0 < T) (hv : 0 < v) (h1 : ∀ c : Int, c * v * (T : Nat) ≤ u * U → c * (T : Nat) ≤ w) (h2 : ∀ c : Int, u * U ≤ c * v * (T : Nat) → w ≤ c * (T : Nat)) : w * v ≤ u * U + v * T ∧ u * U ≤ w * v + v * T := by
  have hd := Int.mul_ediv_add_emod (u * U) (v * T)
  have hvT : 0 < v * (T : Int) := Int.mul_pos hv (by omega)
  have hm0 := Int.emod_nonneg (u * U) (b := v * T) (by omega)
  have hm1 := Int.emod_lt_of_pos (u * U) hvT
  generalize u * U / (v * T) = c at *
  generalize u * U % (v * T) = x at *
  have e1 : c * v * T = v * T * c := by rw [Int.mul_comm (v * T) c, Int.mul_assoc]
  have e2 : (c + 1) * v * T = v * T * c + v * T := by rw [Int.add_mul, Int.add_mul, e1]; simp
  have g1 := h1 c (by omega)
  have g2 := h2 (c + 1) (by omega)
  have k1 : c * T * v ≤ w * v := Int.mul_le_mul_of_nonneg_right g1 (by omega)
  have k2 : w * v ≤ (c + 1) * T * v := Int.mul_le_mul_of_nonneg_right g2 (by omega)
  have e3 : c * T * v = v * T * c := by rw [Int.mul_comm (v * T) c, Int.mul_assoc, Int.mul_comm (T : Int) v]
  have e4 : (c + 1) * T * v = v * T * c + v * T := by rw [Int.add_mul, Int.add_mul, e3, Int.one_mul, Int.mul_comm (T : Int) v]
  omega
/-- where it is no more than 2^52 it may be held against whole numbers -/
theorem Fl.divI {a b : Nat} {u v : Int} (h : Fl a u) (k : Fl b v) (hv : 0 < v) (hq : u.natAbs ≤ v * 4503599627370496) : ∃ r w, Ieee.double.div a b = some r ∧ RN w r ∧ (∀ c : Int, c * v ≤ u → c * U ≤ w) ∧ (∀ c : Int, u ≤ c * v → w ≤ c * U) := by
  have hU := U_pos
  by_cases hu : u = 0
  · subst hu
    have hk := k
    obtain ⟨t, n, f, k1, k2, k3, k4, rfl⟩ := hk
    obtain ⟨r, w, e, h1, h2, h3⟩ := Go.My.Fl.Fl.div h k hv (by rw [Int.natAbs_zero]; exact Nat.zero_le _)
    exact ⟨r, w, e, h1, h2, h3⟩
  · obtain ⟨r, w, N, e, h1, h2, h3, h4⟩ := Fl.divF h k hv hu
    have hT := pw_pos N
    have hN : N ≤ 2200 := by
      apply Nat.le_of_not_lt; intro hh
      have hp := pw_le (show 2201 ≤ N by omega)
      have hc := div_close hT hv h2 h3
      have p53 := pw_53
      have hUU : U = ((pw 2200 : Nat) : Int) := rfl
      have hp2 : ((pw 2201 : Nat) : Int) = 2 * U := by rw [hUU, show (2201 : Nat) = 2200 + 1 from rfl, pw_succ 2200]; omega
      rw [p53] at h4
      -- |w| v ≤ |u| U + v T, and |w| >= 2^53 T
      have a1 : (w.natAbs : Int) * v ≤ u.natAbs * U + v * (pw N : Nat) := by
        by_cases cw : 0 ≤ w
        · rw [show (w.natAbs : Int) = w by omega]
          have : u * U ≤ u.natAbs * U := Int.mul_le_mul_of_nonneg_right (by omega) (by omega)
          omega
        · rw [show (w.natAbs : Int) = -w by omega, Int.neg_mul]
          have : -u * U ≤ u.natAbs * U := Int.mul_le_mul_of_nonneg_right (by omega) (by omega)
          rw [Int.neg_mul] at this
          omega
      have a2 : (9007199254740992 * (pw N : Nat) : Int) * v ≤ w.natAbs * v := Int.mul_le_mul_of_nonneg_right (by omega) (by omega)
      have a3 : (u.natAbs : Int) * U ≤ v * 4503599627370496 * U := Int.mul_le_mul_of_nonneg_right hq (by omega)
      have a4 : v * (2 * U) ≤ v * (pw N : Nat) := Int.mul_le_mul_of_nonneg_left (by omega) (by omega)
      have a5 : 0 < v * U := Int.mul_pos hv hU
      have e1 : (9007199254740992 * (pw N : Nat) : Int) * v = 9007199254740992 * (v * (pw N : Nat)) := by rw [Int.mul_assoc, Int.mul_comm v]
      have e2 : v * 4503599627370496 * U = 4503599627370496 * (v * U) := by rw [Int.mul_comm v, Int.mul_assoc]
      have e3 : v * (2 * U) = 2 * (v * U) := Int.mul_left_comm v 2 U
      rw [e1] at a2
      rw [e2] at a3
      rw [e3] at a4
      generalize v * (pw N : Nat) = X at *
      generalize v * U = Y at *
      generalize (w.natAbs : Int) * v = Z at *
      generalize (u.natAbs : Int) * U = W at *
      omega
    have hUU : U = ((pw (2200 - N) : Nat) : Int) * (pw N : Nat) := by
      rw [← Int.natCast_mul, ← pw_add, show 2200 - N + N = 2200 by omega]; rfl
    refine ⟨r, w, e, h1, fun c hc => ?_, fun c hc => ?_⟩
    · have := h2 (c * (pw (2200 - N) : Nat)) (by
        have e1 : c * (pw (2200 - N) : Nat) * v * (pw N : Nat) = c * v * U := by rw [hUU]; simp only [Int.mul_comm, Int.mul_left_comm, Int.mul_assoc]
        rw [e1]; exact Int.mul_le_mul_of_nonneg_right hc (by omega))
      rwa [Int.mul_assoc, ← hUU] at this
    · have := h3 (c * (pw (2200 - N) : Nat)) (by
        have e1 : c * (pw (2200 - N) : Nat) * v * (pw N : Nat) = c * v * U := by rw [hUU]; simp only [Int.mul_comm, Int.mul_left_comm, Int.mul_assoc]
        rw [e1]; exact Int.mul_le_mul_of_nonneg_right hc (by omega))
      rwa [Int.mul_assoc, ← hUU] at this
/-- a through 1 -/
theorem div_one (a : Int) (ha : a.natAbs < 4503599627370496) : ∃ r, Ieee.double.div (FloatKind.f64.nearest a) (FloatKind.f64.nearest 1) = some r ∧ Fl r (a * U) := by
  have hU := U_pos
  have p53 := pw_53
  have f1 : Fl (FloatKind.f64.nearest a) (a * U) := fl_int (by omega)
  have f2 : Fl (FloatKind.f64.nearest 1) (1 * U) := fl_int (by rw [pw_53]; decide)
  rw [Int.one_mul] at f2
  obtain ⟨r, w, e, h1, h2, h3⟩ := Fl.divI f1 f2 hU (by
    rw [Int.natAbs_mul, Int.natCast_mul, show (U.natAbs : Int) = U by omega, Int.mul_comm]
    exact Int.mul_le_mul_of_nonneg_left (by omega) (by omega))
  have : w = a * U := Int.le_antisymm (h3 a (Int.le_refl _)) (h2 a (Int.le_refl _))
  subst this
  exact ⟨r, e, rn_exactI h1 (by omega)⟩

/-! ### thousandths -/
theorem fl_thou : Fl 4652007308841189376 (1000 * U) := fl_const 1000 _ (by decide) (by decide +kernel)
theorem rp_big (k : Nat) (h1 : 1126 ≤ k) (h2 : k < 3224) : Rp ((pw k : Nat) : Int).natAbs ∧ ((pw k : Nat) : Int).natAbs < pw 3224 := by
  rw [Int.natAbs_natCast]
  exact ⟨⟨1, k, by have := pw_pos 53; omega, h1, by omega⟩, pw_lt h2⟩
/-- so many thousandths, through 1000 and times 1000 again -/
theorem shows_math (n : Int) (hn : n.natAbs < 1099511627776) : ∃ r v, Ieee.double.div (FloatKind.f64.nearest n) 4652007308841189376 = some r ∧ Fl r v ∧ (Ieee.double.mul r 4652007308841189376).bind rndO = some n := by
  have hU := U_pos
  have p53 := pw_53
  have f1 : Fl (FloatKind.f64.nearest n) (n * U) := fl_int (by omega)
  have hv : (0 : Int) < 1000 * U := by omega
  -- the unit of the errors
  obtain ⟨T, hT⟩ : ∃ T : Int, T = (pw 2178 : Nat) := ⟨_, rfl⟩
  have hT0 : 0 < T := by have := pw_pos 2178; omega
  have q1 : ((pw 2179 : Nat) : Int) = 2 * T := by rw [hT, show (2179 : Nat) = 2178 + 1 from rfl, pw_succ 2178]; omega
  have qk : ∀ k : Nat, ((pw (2178 + k) : Nat) : Int) = (pw k : Nat) * T := fun k => by rw [hT, Nat.add_comm, pw_add]; omega
  have p22 : pw 22 = 4194304 := by unfold pw; decide
  have p10 : pw 10 = 1024 := by unfold pw; decide
  have hUT : U = 4194304 * T := by
    have := qk 22
    rw [p22] at this
    exact this
  have big : ∃ r v, Ieee.double.div (FloatKind.f64.nearest n) 4652007308841189376 = some r ∧ Fl r v ∧ 1000 * v ≤ n * U + 2000 * T ∧ n * U ≤ 1000 * v + 2000 * T := by
    by_cases h0 : n = 0
    · subst h0
      rw [Int.zero_mul] at f1
      obtain ⟨r, w, e, h1, h2, h3⟩ := Fl.divI f1 fl_thou hv (by omega)
      have h2 := h2 0 (by omega)
      have h3 := h3 0 (by omega)
      obtain rfl : w = 0 := by omega
      exact ⟨r, 0, e, rn_zero h1, by omega, by omega⟩
    · obtain ⟨r, w, N, e, h1, h2, h3, h4⟩ := Fl.divF f1 fl_thou hv (by
        intro hh; exact h0 ((Int.mul_eq_zero.1 hh).resolve_right (by omega)))
      obtain ⟨r', w', e', h1', h2', h3'⟩ := Fl.divI f1 fl_thou hv (by
        rw [Int.natAbs_mul, Int.natCast_mul, show (U.natAbs : Int) = U by omega]
        have : (n.natAbs : Int) * U ≤ 1099511627776 * U := Int.mul_le_mul_of_nonneg_right (by omega) (by omega)
        omega)
      have hP := pw_pos N
      have hc := div_close hP hv h2 h3
      have c1 : w * 1000 ≤ n * U + 1000 * (pw N : Nat) := by
        refine Int.le_of_mul_le_mul_right (a := U) ?_ hU
        have e1 : w * 1000 * U = w * (1000 * U) := Int.mul_assoc _ _ _
        have e2 : (n * U + 1000 * (pw N : Nat)) * U = n * U * U + 1000 * U * (pw N : Nat) := by rw [Int.add_mul, Int.mul_assoc 1000, Int.mul_assoc 1000, Int.mul_comm U]
        omega
      have c2 : n * U ≤ w * 1000 + 1000 * (pw N : Nat) := by
        refine Int.le_of_mul_le_mul_right (a := U) ?_ hU
        have e1 : (w * 1000 + 1000 * (pw N : Nat)) * U = w * (1000 * U) + 1000 * U * (pw N : Nat) := by rw [Int.add_mul, Int.mul_assoc, Int.mul_assoc 1000, Int.mul_assoc 1000, Int.mul_comm U]
        omega
      have nb : (n.natAbs : Int) * U ≤ 1099511627776 * U := Int.mul_le_mul_of_nonneg_right (by omega) (by omega)
      have nb2 : n * U ≤ 1099511627776 * U ∧ -(1099511627776 * U) ≤ n * U := by
        have a1 : n * U ≤ 1099511627776 * U := Int.mul_le_mul_of_nonneg_right (by omega) (by omega)
        have a2 : -1099511627776 * U ≤ n * U := Int.mul_le_mul_of_nonneg_right (by omega) (by omega)
        rw [Int.neg_mul] at a2
        exact ⟨a1, a2⟩
      have hw : w.natAbs < pw 2231 := by
        have hb : ((pw 2231 : Nat) : Int) = 9007199254740992 * T := by have := qk 53; rw [p53] at this; exact this
        rw [p53] at h4
        omega
      have hN : N < 2178 := by
        apply Nat.lt_of_not_le; intro hh
        have := pw_le hh
        have hb : pw 2231 = pw 53 * pw 2178 := by rw [← pw_add]
        have := Nat.mul_le_mul_left (pw 53) this
        omega
      have hN2 : ((pw N : Nat) : Int) ≤ T := by have := pw_le (show N ≤ 2178 by omega); omega
      have hb := rp_big 2231 (by omega) (by omega)
      obtain ⟨v, hv⟩ := h1.fl hb.1 hb.2 (by rw [Int.natAbs_natCast]; omega)
      have hnear := h1.near hv 2230 hw (by omega)
      rw [show 2230 - 52 = 2178 from rfl, ← hT] at hnear
      exact ⟨r, v, e, hv, by omega, by omega⟩
  obtain ⟨r, v, e, hf, b1, b2⟩ := big
  obtain ⟨r2, w2, e2, g1, g2⟩ := hf.mul fl_thou
  have hw2 : w2 = 1000 * v := by
    have : w2 * U = (1000 * v) * U := by rw [g2]; simp only [Int.mul_comm, Int.mul_left_comm, Int.mul_assoc]
    exact Int.eq_of_mul_eq_mul_right (by omega) this
  subst hw2
  have nb2 : n * U ≤ 1099511627776 * U ∧ -(1099511627776 * U) ≤ n * U := by
    have a1 : n * U ≤ 1099511627776 * U := Int.mul_le_mul_of_nonneg_right (by omega) (by omega)
    have a2 : -1099511627776 * U ≤ n * U := Int.mul_le_mul_of_nonneg_right (by omega) (by omega)
    rw [Int.neg_mul] at a2
    exact ⟨a1, a2⟩
  have hlt : (1000 * v).natAbs < pw 2241 := by
    have hb : ((pw 2241 : Nat) : Int) = 9223372036854775808 * T := by
      have := qk 63
      rw [show pw 63 = 9223372036854775808 by unfold pw; decide] at this; exact this
    omega
  have hb := rp_big 2241 (by omega) (by omega)
  obtain ⟨y, hy⟩ := g1.fl hb.1 hb.2 (by rw [Int.natAbs_natCast]; omega)
  have hnear := g1.near hy 2240 hlt (by omega)
  have q10 := qk 10
  rw [p10] at q10
  rw [show 2240 - 52 = 2178 + 10 from rfl, q10] at hnear
  refine ⟨r, v, e, hf, ?_⟩
  rw [e2]
  show rndO r2 = _
  have : rndI y = n := rndI_of_near (by omega) (by omega)
  rw [rndO_fl hy, this, if_pos (by unfold inR; omega)]
end Go.Proofs.YtdmjnheohjegdaaDoor
