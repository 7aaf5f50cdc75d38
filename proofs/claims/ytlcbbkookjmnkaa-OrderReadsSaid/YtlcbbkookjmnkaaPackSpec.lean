/- What readers tell of bytes that were written: plain mathematics. -/
import Derived.Test.YtlcbbkookjmnkaaPackR
namespace Go.Proofs.Ytlcbbkookjmnkaa
open Go.RowKit Go.My
set_option linter.unusedSimpArgs false
set_option linter.unusedVariables false

theorem rnum_enc (x : Int) (rest : List UInt8) (h : -9223372036854775808 ≤ x ∧ x ≤ 9223372036854775807) : rnum (enc (zig x) ++ rest) 0 = (x, 0, rest) := by
  have hd := dec_enc (zig x) rest (zig_lt x h.1 h.2)
  unfold rnum
  rw [hd]
  simp [zag_zig]
theorem rnum_torn (x : Int) (k : Nat) (h : k < (enc (zig x)).length) : rnum ((enc (zig x)).take k) 0 = (0, 4, []) := by
  have hd := dec_torn (zig x) k h
  unfold rnum
  rw [hd]
  simp
theorem rnum_only (l : List UInt8) (h : (rnum l 0).2.1 = 0) : l = enc (zig (rnum l 0).1) ++ (rnum l 0).2.2 := by
  unfold rnum at h ⊢
  simp only [ne_eq, not_true_eq_false, if_false] at h ⊢
  split at h
  · rename_i h0; exact absurd h h0
  · rename_i h0
    rw [if_neg h0]
    have hd : (dec l).2.2 = 0 := by simpa using h0
    obtain ⟨_, _, h3, _⟩ := dec_only l (dec l).1 (dec l).2.1 (by rw [← hd])
    rw [zig_zag, ← h3]
    simp
theorem rnum_bad (l : List UInt8) (h : (rnum l 0).2.1 ≠ 0) : (rnum l 0).2.2 = [] := by
  unfold rnum at h ⊢
  simp only [ne_eq, not_true_eq_false, if_false] at h ⊢
  split at h
  · rename_i h0; rw [if_pos h0]
  · simp at h
theorem rrange_bad (lo hi : Int) (l : List UInt8) (h : (rrange lo hi l 0).2.1 ≠ 0) : (rrange lo hi l 0).2.2 = [] := by
  unfold rrange at h ⊢
  split at h
  · rename_i h0; rw [if_pos h0]; exact rnum_bad l h0
  · rename_i h0
    rw [if_neg h0]
    split at h
    · rename_i h1; rw [if_pos h1]
    · rename_i h1; exact absurd h h0
theorem rmany_bad_rest (k : Nat) : ∀ l : List UInt8, (rmany k l 0).2.1 ≠ 0 → (rmany k l 0).2.2 = [] ∧ (rmany k l 0).1 = [] := by
  induction k with
  | zero => intro l h; simp [rmany] at h
  | succ k ih =>
    intro l h
    unfold rmany at h ⊢
    split at h
    · rename_i h0; rw [if_pos h0]; exact ⟨rnum_bad l h0, rfl⟩
    · rename_i h0
      rw [if_neg h0]
      split at h
      · rename_i h1; rw [if_pos h1]; exact ⟨(ih _ h1).1, rfl⟩
      · rename_i h1; exact absurd h h1
theorem rnums_bad (most : Int) (l : List UInt8) (h : (rnums most l 0).2.1 ≠ 0) : (rnums most l 0).2.2 = [] ∧ (rnums most l 0).1 = [] := by
  unfold rnums at h ⊢
  split at h
  · rename_i h0; rw [if_pos h0]; exact ⟨rrange_bad _ _ l h0, rfl⟩
  · rename_i h0; rw [if_neg h0]; exact rmany_bad_rest _ _ h
theorem rmany_only (k : Nat) : ∀ l : List UInt8, (rmany k l 0).2.1 = 0 → (rmany k l 0).1.length = k ∧ l = encs (rmany k l 0).1 ++ (rmany k l 0).2.2 := by
  induction k with
  | zero => intro l _; simp [rmany, encs]
  | succ k ih =>
    intro l h
    unfold rmany at h ⊢
    split at h
    · rename_i h0; exact absurd h h0
    · rename_i h0
      rw [if_neg h0]
      split at h
      · rename_i h1; exact absurd h h1
      · rename_i h1
        rw [if_neg h1]
        obtain ⟨h2, h3⟩ := ih (rnum l 0).2.2 h
        have h4 := rnum_only l (by simpa using h0)
        refine ⟨by simp [h2], ?_⟩
        have e : encs ((rnum l 0).1 :: (rmany k (rnum l 0).2.2 0).1) = enc (zig (rnum l 0).1) ++ encs (rmany k (rnum l 0).2.2 0).1 := by simp [encs]
        rw [e, List.append_assoc, ← h3, ← h4]
theorem rnums_only (most : Int) (l : List UInt8) (h : (rnums most l 0).2.1 = 0) : l = encNums (rnums most l 0).1 ++ (rnums most l 0).2.2 ∧ ((rnums most l 0).1.length : Int) ≤ most := by
  unfold rnums at h ⊢
  split at h
  · rename_i h0; exact absurd h h0
  · rename_i h0
    rw [if_neg h0]
    have h1 : (rrange 0 most l 0).2.1 = 0 := by simpa using h0
    obtain ⟨h2, h3, h4⟩ := rrange_ok 0 most l 0 h1
    rw [h2] at h h1 ⊢
    obtain ⟨h5, h6⟩ := rmany_only _ _ h
    have h7 := rnum_only l h1
    refine ⟨?_, by rw [h5]; omega⟩
    unfold encNums
    rw [h5, List.append_assoc, ← h6]
    have e : (((rnum l 0).1.toNat : Nat) : Int) = (rnum l 0).1 := by omega
    rw [e, ← h7]

theorem rmany_enc (xs : List Int) : ∀ rest : List UInt8, I64s xs → rmany xs.length (encs xs ++ rest) 0 = (xs, 0, rest) := by
  induction xs with
  | nil => intro rest _; simp [rmany, encs]
  | cons x xs ih =>
    intro rest h
    have e : encs (x :: xs) ++ rest = enc (zig x) ++ (encs xs ++ rest) := by simp [encs]
    have h1 := rnum_enc x (encs xs ++ rest) (h x (by simp))
    have h2 := ih rest (fun y hy => h y (by simp [hy]))
    rw [List.length_cons, e, rmany, h1]
    simp [h2]
theorem rnums_enc (most : Int) (xs : List Int) (rest : List UInt8) (h : I64s xs) (hm : (xs.length : Int) ≤ most) (hl : xs.length ≤ 1000000) : rnums most (encNums xs ++ rest) 0 = (xs, 0, rest) := by
  have h1 := rnum_enc (xs.length : Int) (encs xs ++ rest) ⟨by omega, by omega⟩
  have e : encNums xs ++ rest = enc (zig xs.length) ++ (encs xs ++ rest) := by simp [encNums]
  have h2 : rrange 0 most (encNums xs ++ rest) 0 = ((xs.length : Int), 0, encs xs ++ rest) := by
    unfold rrange
    rw [e, h1]
    simp only [ne_eq, not_true_eq_false, if_false]
    rw [if_neg (by omega)]
  unfold rnums
  rw [h2]
  simp only [ne_eq, not_true_eq_false, if_false, Int.toNat_natCast]
  exact rmany_enc xs rest h

theorem rmany_torn (xs : List Int) : ∀ (k : Nat), I64s xs → k < (encs xs).length → (rmany xs.length ((encs xs).take k) 0).2.1 = 4 := by
  induction xs with
  | nil => intro k _ hk; simp [encs] at hk
  | cons x xs ih =>
    intro k h hk
    have e : encs (x :: xs) = enc (zig x) ++ encs xs := by simp [encs]
    rw [e] at hk ⊢
    rw [List.length_cons]
    by_cases hlt : k < (enc (zig x)).length
    · rw [List.take_append_of_le_length (by omega), rmany, rnum_torn x k hlt]
      simp
    · have h1 : (enc (zig x) ++ encs xs).take k = enc (zig x) ++ (encs xs).take (k - (enc (zig x)).length) := by
        rw [List.take_append, List.take_of_length_le (by omega)]
      have h2 := rnum_enc x ((encs xs).take (k - (enc (zig x)).length)) (h x (by simp))
      have h3 := ih (k - (enc (zig x)).length) (fun y hy => h y (by simp [hy])) (by rw [List.length_append] at hk; omega)
      rw [h1, rmany, h2]
      simp [h3]
theorem rnums_torn (most : Int) (xs : List Int) (k : Nat) (h : I64s xs) (hm : (xs.length : Int) ≤ most) (hl : xs.length ≤ 1000000) (hk : k < (encNums xs).length) : (rnums most ((encNums xs).take k) 0).2.1 = 4 := by
  unfold encNums at hk ⊢
  by_cases hlt : k < (enc (zig xs.length)).length
  · rw [List.take_append_of_le_length (by omega)]
    have h1 := rnum_torn (xs.length : Int) k hlt
    have h2 : rrange 0 most ((enc (zig xs.length)).take k) 0 = (0, 4, []) := by
      unfold rrange
      rw [h1]
      simp
    unfold rnums
    rw [h2]
    simp
  · have h1 : (enc (zig xs.length) ++ encs xs).take k = enc (zig xs.length) ++ (encs xs).take (k - (enc (zig xs.length)).length) := by
      rw [List.take_append, List.take_of_length_le (by omega)]
    have h2 := rnum_enc (xs.length : Int) ((encs xs).take (k - (enc (zig xs.length)).length)) ⟨by omega, by omega⟩
    have h3 : rrange 0 most ((enc (zig xs.length) ++ encs xs).take k) 0 = ((xs.length : Int), 0, (encs xs).take (k - (enc (zig xs.length)).length)) := by
      unfold rrange
      rw [h1, h2]
      simp only [ne_eq, not_true_eq_false, if_false]
      rw [if_neg (by omega)]
    unfold rnums
    rw [h3]
    simp only [ne_eq, not_true_eq_false, if_false, Int.toNat_natCast]
    exact rmany_torn xs _ h (by rw [List.length_append] at hk; omega)

theorem rtext_enc (most : Int) (s rest : List UInt8) (hm : (s.length : Int) ≤ most) (hl : s.length ≤ 1000000) : rtext most (enc (zig s.length) ++ s ++ rest) 0 = (s, 0, rest) := by
  have h1 := rnum_enc (s.length : Int) (s ++ rest) ⟨by omega, by omega⟩
  have h2 : rrange 0 most (enc (zig s.length) ++ s ++ rest) 0 = ((s.length : Int), 0, s ++ rest) := by
    unfold rrange
    rw [List.append_assoc, h1]
    simp only [ne_eq, not_true_eq_false, if_false]
    rw [if_neg (by omega)]
  unfold rtext
  rw [h2]
  simp only [ne_eq, not_true_eq_false, if_false, Int.toNat_natCast]
  rw [if_neg (by simp; omega)]
  simp
end Go.Proofs.Ytlcbbkookjmnkaa
