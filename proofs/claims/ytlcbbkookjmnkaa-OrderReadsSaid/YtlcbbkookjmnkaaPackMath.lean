/- Numbers as bytes: the plain mathematics of package pack. Of no program. -/
set_option linter.unusedSimpArgs false
set_option linter.unusedVariables false
namespace Go.My

/-- the sign as the lowest bit -/
def zig (x : Int) : Nat := if 0 ≤ x then (2 * x).toNat else (-2 * x - 1).toNat
def zag (m : Nat) : Int := if m % 2 = 0 then (m / 2 : Nat) else -((m / 2 : Nat) : Int) - 1
theorem zag_zig (x : Int) : zag (zig x) = x := by unfold zag zig; split <;> split <;> omega
theorem zig_zag (m : Nat) : zig (zag m) = m := by unfold zag zig; split <;> split <;> omega
theorem zig_lt (x : Int) (h1 : -9223372036854775808 ≤ x) (h2 : x ≤ 9223372036854775807) : zig x < 18446744073709551616 := by unfold zig; split <;> omega
theorem zag_bd (m : Nat) (h : m < 18446744073709551616) : -9223372036854775808 ≤ zag m ∧ zag m ≤ 9223372036854775807 := by unfold zag; split <;> omega

/-- seven bits a byte, the lowest first; at most f + 1 bytes -/
def encF : Nat → Nat → List UInt8
  | 0, m => [UInt8.ofNat m]
  | f + 1, m => if m < 128 then [UInt8.ofNat m] else UInt8.ofNat (m % 128 + 128) :: encF f (m / 128)
def enc (m : Nat) : List UInt8 := encF 9 m

theorem encF_length_pos (f m : Nat) : 0 < (encF f m).length := by
  cases f with
  | zero => simp [encF]
  | succ f => unfold encF; split <;> simp
theorem encF_length_le (f : Nat) : ∀ m, (encF f m).length ≤ f + 1 := by
  induction f with
  | zero => intro m; simp [encF]
  | succ f ih =>
    intro m
    unfold encF
    split
    · simp
    · simp; exact ih _
theorem enc_length_le (m : Nat) : (enc m).length ≤ 10 := encF_length_le 9 m
theorem enc_length_pos (m : Nat) : 0 < (enc m).length := encF_length_pos 9 m

/-- what the bytes begin with: the number, its size, the error -/
def decF : Nat → Nat → List UInt8 → Nat × Nat × Nat
  | _, _, [] => (0, 0, 4)
  | i, m, c :: l =>
    if 10 ≤ i then (0, 0, 3)
    else if 128 ≤ c.toNat then decF (i + 1) (m + (c.toNat - 128) * 128 ^ i) l
    else if (i = 9 ∧ 1 < c.toNat) ∨ (c.toNat = 0 ∧ 0 < i) then (0, 0, 3)
    else (m + c.toNat * 128 ^ i, i + 1, 0)
def dec (l : List UInt8) : Nat × Nat × Nat := decF 0 0 l

theorem decF_ten (a b : Nat) (l : List UInt8) : decF 10 a l = decF 10 b l := by cases l <;> simp [decF]

theorem ofNat_toNat (n : Nat) (h : n < 256) : (UInt8.ofNat n).toNat = n := by simp; omega

theorem pow_step (i : Nat) : (128 : Nat) ^ (i + 1) = 128 * 128 ^ i := by rw [Nat.pow_succ, Nat.mul_comm]

theorem decF_encF (f : Nat) : ∀ (i a m : Nat) (rest : List UInt8), i + f = 9 → m * 128 ^ i < 18446744073709551616 → (0 < i → 0 < m) →
    decF i a (encF f m ++ rest) = (a + m * 128 ^ i, i + (encF f m).length, 0) := by
  induction f with
  | zero =>
    intro i a m rest hi hm hp
    obtain rfl : i = 9 := by omega
    have h9 : (128 : Nat) ^ 9 = 9223372036854775808 := by decide
    rw [h9] at hm
    have hm2 : m < 2 := by omega
    have ht := ofNat_toNat m (by omega)
    have hp' := hp (by omega)
    simp only [encF, List.cons_append, List.nil_append, decF, ht, List.length_singleton]
    rw [if_neg (by omega), if_neg (by omega), if_neg (by omega)]
  | succ f ih =>
    intro i a m rest hi hm hp
    unfold encF
    split
    · rename_i hlt
      have ht := ofNat_toNat m (by omega)
      have hp' := hp
      simp only [List.cons_append, List.nil_append, decF, ht, List.length_singleton]
      rw [if_neg (by omega), if_neg (by omega), if_neg (by omega)]
    · rename_i hge
      have ht := ofNat_toNat (m % 128 + 128) (by omega)
      have hd : m / 128 * 128 ^ (i + 1) + m % 128 * 128 ^ i = m * 128 ^ i := by
        rw [pow_step, ← Nat.mul_assoc, ← Nat.add_mul]
        congr 1
        omega
      simp only [List.cons_append, decF, ht]
      rw [if_neg (by omega), if_pos (by omega), ih (i + 1) _ (m / 128) rest (by omega) (by omega) (fun _ => by omega)]
      simp only [List.length_cons, Nat.add_sub_cancel, Prod.mk.injEq]
      refine ⟨by omega, by omega, trivial⟩

theorem dec_enc (m : Nat) (rest : List UInt8) (h : m < 18446744073709551616) : dec (enc m ++ rest) = (m, (enc m).length, 0) := by
  have := decF_encF 9 0 0 m rest rfl (by simpa using h) (by omega)
  simpa [dec, enc] using this

theorem decF_torn (f : Nat) : ∀ (i a m k : Nat), i + f = 9 → k < (encF f m).length → decF i a ((encF f m).take k) = (0, 0, 4) := by
  induction f with
  | zero =>
    intro i a m k hi hk
    simp only [encF, List.length_singleton] at hk
    obtain rfl : k = 0 := by omega
    simp [decF]
  | succ f ih =>
    intro i a m k hi hk
    unfold encF at hk ⊢
    split at hk
    · rename_i h1
      simp only [List.length_singleton] at hk
      obtain rfl : k = 0 := by omega
      simp [decF]
    · rename_i h1
      rw [if_neg h1]
      cases k with
      | zero => simp [decF]
      | succ k =>
        have ht := ofNat_toNat (m % 128 + 128) (by omega)
        simp only [List.length_cons] at hk
        simp only [List.take_succ_cons, decF, ht]
        rw [if_neg (by omega), if_pos (by omega), ih (i + 1) _ _ k (by omega) (by omega)]
theorem dec_torn (m k : Nat) (h : k < (enc m).length) : dec ((enc m).take k) = (0, 0, 4) := decF_torn 9 0 0 m k rfl h

theorem decF_only (f : Nat) : ∀ (i a : Nat) (l : List UInt8) (M n : Nat), i + f = 9 → decF i a l = (M, n, 0) →
    ∃ m, M = a + m * 128 ^ i ∧ i < n ∧ n - i ≤ l.length ∧ l.take (n - i) = encF f m ∧ m * 128 ^ i < 18446744073709551616 ∧ (0 < i → 0 < m) := by
  induction f with
  | zero =>
    intro i a l M n hi h
    obtain rfl : i = 9 := by omega
    have h9 : (128 : Nat) ^ 9 = 9223372036854775808 := by decide
    cases l with
    | nil => simp [decF] at h
    | cons c l =>
      simp only [decF] at h
      rw [if_neg (by omega)] at h
      split at h
      · cases l with
        | nil => simp [decF] at h
        | cons d l => simp [decF] at h
      · split at h
        · simp at h
        · rename_i hc hn
          simp only [Prod.mk.injEq, and_true] at h
          obtain ⟨rfl, rfl⟩ := h
          have hn1 : ¬ 1 < c.toNat := fun h1 => hn (.inl ⟨by trivial, h1⟩)
          have hn2 : ¬ c.toNat = 0 := fun h1 => hn (.inr ⟨h1, by omega⟩)
          refine ⟨c.toNat, rfl, by omega, by simp, ?_, by rw [h9]; omega, fun _ => by omega⟩
          simp [encF]
  | succ f ih =>
    intro i a l M n hi h
    cases l with
    | nil => simp [decF] at h
    | cons c l =>
      simp only [decF] at h
      rw [if_neg (by omega)] at h
      split at h
      · rename_i hc
        obtain ⟨m, hM, hlt, hle, htk, hb, hp⟩ := ih (i + 1) _ l M n (by omega) h
        have hp' := hp (by omega)
        have hcl : c.toNat < 256 := c.toNat_lt
        have hd : (m * 128 + (c.toNat - 128)) * 128 ^ i = m * 128 ^ (i + 1) + (c.toNat - 128) * 128 ^ i := by
          rw [pow_step, Nat.add_mul, Nat.mul_assoc]
        refine ⟨m * 128 + (c.toNat - 128), by omega, by omega, by simp; omega, ?_, ?_, fun _ => by omega⟩
        · obtain ⟨j, rfl⟩ : ∃ j, n = i + 1 + j := ⟨n - (i + 1), by omega⟩
          have e1 : i + 1 + j - i = j + 1 := by omega
          have e2 : i + 1 + j - (i + 1) = j := by omega
          rw [e2] at htk
          rw [e1, List.take_succ_cons, htk]
          rw [encF, if_neg (by omega)]
          have e3 : (m * 128 + (c.toNat - 128)) % 128 + 128 = c.toNat := by omega
          have e4 : (m * 128 + (c.toNat - 128)) / 128 = m := by omega
          rw [e3, e4]
          simp
        · rw [hd]
          have hlt2 : (c.toNat - 128) * 128 ^ i < 128 ^ (i + 1) := by
            rw [pow_step]
            exact Nat.mul_lt_mul_of_pos_right (by omega) (Nat.pow_pos (by omega))
          -- a multiple of 128^(i+1) below 2^64 leaves room for less than 128^(i+1)
          have hpow : (128 : Nat) ^ (i + 1) ∣ 18446744073709551616 := by
            have : (18446744073709551616 : Nat) = 2 ^ 64 := by decide
            rw [this, show (128 : Nat) = 2 ^ 7 from by decide, ← Nat.pow_mul]
            exact Nat.pow_dvd_pow 2 (by omega)
          obtain ⟨q, hq⟩ := hpow
          rw [hq] at hb ⊢
          have hmq : m < q := by
            rw [Nat.mul_comm m] at hb
            exact Nat.lt_of_mul_lt_mul_left hb
          calc m * 128 ^ (i + 1) + (c.toNat - 128) * 128 ^ i < m * 128 ^ (i + 1) + 128 ^ (i + 1) := by omega
            _ = (m + 1) * 128 ^ (i + 1) := by rw [Nat.add_mul, Nat.one_mul]
            _ ≤ q * 128 ^ (i + 1) := Nat.mul_le_mul_right _ hmq
            _ = 128 ^ (i + 1) * q := Nat.mul_comm _ _
      · split at h
        · simp at h
        · rename_i hc hn
          simp only [Prod.mk.injEq, and_true] at h
          obtain ⟨rfl, rfl⟩ := h
          have hcl : c.toNat < 128 := by omega
          refine ⟨c.toNat, rfl, by omega, by simp, ?_, ?_, fun h0 => by omega⟩
          · have e1 : i + 1 - i = 1 := by omega
            rw [e1]
            unfold encF
            rw [if_pos hcl]
            simp
          · have : (128 : Nat) ^ i ≤ 128 ^ 8 := Nat.pow_le_pow_right (by omega) (by omega)
            have h8 : (128 : Nat) ^ 8 = 72057594037927936 := by decide
            have : c.toNat * 128 ^ i ≤ 127 * 72057594037927936 := Nat.mul_le_mul (by omega) (by omega)
            omega

theorem dec_only (l : List UInt8) (M n : Nat) (h : dec l = (M, n, 0)) : 0 < n ∧ n ≤ l.length ∧ l.take n = enc M ∧ M < 18446744073709551616 := by
  obtain ⟨m, hM, h1, h2, h3, h4, _⟩ := decF_only 9 0 0 l M n rfl h
  simp only [Nat.pow_zero, Nat.mul_one, Nat.zero_add] at hM h4
  subst hM
  exact ⟨h1, by simpa using h2, by simpa [enc] using h3, h4⟩

/-- an error tells nothing else -/
theorem decF_err (l : List UInt8) : ∀ i a, (decF i a l).2.2 = 0 ∨ ((decF i a l).2.2 = 3 ∨ (decF i a l).2.2 = 4) ∧ (decF i a l).1 = 0 ∧ (decF i a l).2.1 = 0 := by
  induction l with
  | nil => intro i a; simp [decF]
  | cons c l ih =>
    intro i a
    simp only [decF]
    split
    · simp
    · split
      · exact ih _ _
      · split <;> simp
theorem dec_err (l : List UInt8) : (dec l).2.2 = 0 ∨ ((dec l).2.2 = 3 ∨ (dec l).2.2 = 4) ∧ (dec l).1 = 0 ∧ (dec l).2.1 = 0 := decF_err l 0 0
theorem dec_err_lt (l : List UInt8) : (dec l).2.2 < 5 := by rcases dec_err l with h | ⟨h | h, _⟩ <;> omega
theorem dec_le (l : List UInt8) : (dec l).2.1 ≤ l.length := by
  rcases dec_err l with h | ⟨_, _, h⟩
  · obtain ⟨M, n, e⟩ : ∃ M n, dec l = (M, n, 0) := ⟨(dec l).1, (dec l).2.1, by rw [← h]⟩
    rw [e]
    exact (dec_only l M n e).2.1
  · omega
theorem dec_lt (l : List UInt8) : (dec l).1 < 18446744073709551616 := by
  rcases dec_err l with h | ⟨_, h, _⟩
  · obtain ⟨M, n, e⟩ : ∃ M n, dec l = (M, n, 0) := ⟨(dec l).1, (dec l).2.1, by rw [← h]⟩
    rw [e]
    exact (dec_only l M n e).2.2.2
  · omega
end Go.My
