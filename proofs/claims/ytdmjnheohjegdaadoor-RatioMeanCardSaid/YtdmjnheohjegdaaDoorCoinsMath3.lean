/- Digits one by one, from the last on: of no program. -/
import Derived.Test.YtdmjnheohjegdaaDoorCoinsMath2
namespace Go.My
open Go Go.RowKit
set_option linter.unusedSimpArgs false
set_option linter.unusedVariables false

/-- a digit -/
def dg (m : Nat) : UInt8 := UInt8.ofNat (48 + m % 10)
/-- the last i digits -/
def lowd (N : Nat) : Nat → List UInt8
  | 0 => []
  | i + 1 => dg (N / 10 ^ i) :: lowd N i
theorem lowd_succ (N i : Nat) : lowd N (i + 1) = dg (N / 10 ^ i) :: lowd N i := rfl
theorem lowd_length (N i : Nat) : (lowd N i).length = i := by
  induction i with
  | zero => rfl
  | succ i ih => rw [lowd_succ, List.length_cons, ih]
theorem lowd_last (N i : Nat) : lowd N (i + 1) = lowd (N / 10) i ++ [dg N] := by
  induction i with
  | zero => simp [lowd]
  | succ i ih =>
    rw [lowd_succ, ih, lowd_succ, List.cons_append]
    congr 2
    rw [Nat.pow_succ, Nat.mul_comm, Nat.div_div_eq_div_mul]
theorem lowd_zero (i : Nat) : lowd 0 i = List.replicate i 48 := by
  induction i with
  | zero => rfl
  | succ i ih =>
    rw [lowd_succ, ih, List.replicate_succ]
    simp [dg]
theorem lowd_full (N : Nat) : ∀ i, (Lib.decDigits N).length ≤ i → lowd N i = List.replicate (i - (Lib.decDigits N).length) 48 ++ Lib.decDigits N := by
  induction N using Nat.strongRecOn with
  | ind N ih =>
    intro i hi
    rw [Lib.decDigits] at hi ⊢
    by_cases h : N < 10
    · rw [dif_pos h] at hi ⊢
      simp only [List.length_cons, List.length_nil] at hi ⊢
      obtain ⟨j, rfl⟩ : ∃ j, i = j + 1 := ⟨i - 1, by omega⟩
      rw [lowd_last, Nat.div_eq_of_lt h, lowd_zero]
      have : N % 10 = N := Nat.mod_eq_of_lt h
      simp [dg, this]
    · rw [dif_neg h] at hi ⊢
      simp only [List.length_append, List.length_cons, List.length_nil] at hi ⊢
      obtain ⟨j, rfl⟩ : ∃ j, i = j + 1 := ⟨i - 1, by omega⟩
      rw [lowd_last, ih (N / 10) (by omega) j (by omega), List.append_assoc]
      rw [show j + 1 - ((Lib.decDigits (N / 10)).length + (0 + 1)) = j - (Lib.decDigits (N / 10)).length by omega]
      rfl
theorem dec_lt (N : Nat) : N < 10 ^ (Lib.decDigits N).length := by
  induction N using Nat.strongRecOn with
  | ind N ih =>
    rw [Lib.decDigits]
    by_cases h : N < 10
    · rw [dif_pos h]; simpa using h
    · rw [dif_neg h, List.length_append, Nat.pow_add]
      have := ih (N / 10) (by omega)
      simp only [List.length_cons, List.length_nil, Nat.zero_add, Nat.pow_one]
      omega
theorem dec_min (N : Nat) : ∀ i, 0 < i → N < 10 ^ i → (Lib.decDigits N).length ≤ i := by
  induction N using Nat.strongRecOn with
  | ind N ih =>
    intro i hi h
    rw [Lib.decDigits]
    by_cases h10 : N < 10
    · rw [dif_pos h10]; exact hi
    · rw [dif_neg h10, List.length_append]
      obtain ⟨j, rfl⟩ : ∃ j, i = j + 1 := ⟨i - 1, by omega⟩
      have h2 : N / 10 < 10 ^ j := by rw [Nat.pow_succ] at h; omega
      have hj : 0 < j := by
        rcases Nat.eq_zero_or_pos j with rfl | h3
        · simp at h2; omega
        · exact h3
      have := ih (N / 10) (by omega) j hj h2
      simp only [List.length_cons, List.length_nil]
      omega
/-- whether digits are left -/
theorem dec_left (N i : Nat) (h : 0 < N / 10 ^ i) : i < (Lib.decDigits N).length := by
  have h1 := dec_lt N
  have h2 : 10 ^ i ≤ N := by
    rcases Nat.lt_or_ge N (10 ^ i) with h3 | h3
    · rw [Nat.div_eq_of_lt h3] at h; omega
    · exact h3
  exact (Nat.pow_lt_pow_iff_right (by omega)).1 (Nat.lt_of_le_of_lt h2 h1)
theorem dec_done (N i : Nat) (hi : 0 < i) (h : N / 10 ^ i = 0) : (Lib.decDigits N).length ≤ i := by
  refine dec_min N i hi ?_
  rcases Nat.lt_or_ge N (10 ^ i) with h3 | h3
  · exact h3
  · have := Nat.div_pos h3 (Nat.pow_pos (by omega)); omega
/-- i digits, with a point ahead of the last k -/
def stt (N k i : Nat) : List UInt8 := if k = 0 ∨ i ≤ k then lowd N i else (lowd N i).take (i - k) ++ 46 :: (lowd N i).drop (i - k)
theorem stt_low (N k i : Nat) (h : k = 0 ∨ i < k) : stt N k (i + 1) = dg (N / 10 ^ i) :: stt N k i := by
  unfold stt
  rw [if_pos (by omega), if_pos (by omega), lowd_succ]
theorem stt_at (N k : Nat) (h : 0 < k) : stt N k (k + 1) = dg (N / 10 ^ k) :: 46 :: stt N k k := by
  unfold stt
  rw [if_neg (by omega), if_pos (by omega), lowd_succ, show k + 1 - k = 1 by omega]
  rfl
theorem stt_high (N k i : Nat) (h : 0 < k) (hi : k < i) : stt N k (i + 1) = dg (N / 10 ^ i) :: stt N k i := by
  unfold stt
  rw [if_neg (by omega), if_neg (by omega), lowd_succ, show i + 1 - k = (i - k) + 1 by omega]
  rfl
theorem stt_zero (N k : Nat) : stt N k 0 = [] := by unfold stt; rw [if_pos (by omega)]; rfl
theorem stt_length (N k i : Nat) : (stt N k i).length ≤ i + 1 := by
  unfold stt
  have := lowd_length N i
  split
  · omega
  · simp; omega

/-- digits, read one by one; other bytes play no part; over 2^64 -/
def acc64 (acc : Nat) (c : UInt8) : Nat := if 48 ≤ c.toNat ∧ c.toNat ≤ 57 then (10 * acc + (c.toNat - 48)) % 18446744073709551616 else acc
def read64 (l : List UInt8) : Nat := l.foldl acc64 0
theorem acc64_lt (acc : Nat) (c : UInt8) (h : acc < 18446744073709551616) : acc64 acc c < 18446744073709551616 := by
  unfold acc64
  split
  · exact Nat.mod_lt _ (by omega)
  · exact h
theorem fold64_lt (l : List UInt8) (acc : Nat) (h : acc < 18446744073709551616) : l.foldl acc64 acc < 18446744073709551616 := by
  induction l generalizing acc with
  | nil => exact h
  | cons c l ih => exact ih _ (acc64_lt acc c h)
theorem read64_snoc (l : List UInt8) (c : UInt8) : read64 (l ++ [c]) = acc64 (read64 l) c := by unfold read64; rw [List.foldl_append]; rfl
theorem fold64_digits (l : List UInt8) (hd : ∀ c ∈ l, isD c) (acc : Nat) : l.foldl acc64 (acc % 18446744073709551616) = valD acc l % 18446744073709551616 := by
  induction l generalizing acc with
  | nil => rfl
  | cons c l ih =>
    have hc := hd c List.mem_cons_self
    unfold isD at hc
    rw [List.foldl_cons, valD_cons, ← ih (fun x hx => hd x (List.mem_cons_of_mem _ hx))]
    congr 1
    unfold acc64
    rw [if_pos hc, stepD_eq]
    omega
theorem acc64_other (acc : Nat) (c : UInt8) (h : c.toNat < 48) : acc64 acc c = acc := by unfold acc64; rw [if_neg (by omega)]
theorem acc64_skip (l r : List UInt8) (c : UInt8) (h : c.toNat < 48) (acc : Nat) : (l ++ c :: r).foldl acc64 acc = (l ++ r).foldl acc64 acc := by
  rw [List.foldl_append, List.foldl_append, List.foldl_cons, acc64_other _ _ h]
end Go.My
