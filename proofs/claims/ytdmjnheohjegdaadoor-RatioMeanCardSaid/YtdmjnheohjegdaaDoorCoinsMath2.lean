/- Digits, as they are written and read: of no program. -/
import Derived.Test.YtdmjnheohjegdaaDoorCoinsMath
import Derived.Lib.ParseIntB
import Derived.Lib.ItoaNum
namespace Go.My
open Go Go.RowKit
set_option linter.unusedSimpArgs false
set_option linter.unusedVariables false

/-- one digit more -/
@[irreducible] def stepD (acc : Nat) (c : UInt8) : Nat := acc * 10 + (c.toNat - 48)
theorem stepD_eq (acc : Nat) (c : UInt8) : stepD acc c = acc * 10 + (c.toNat - 48) := by unfold stepD; rfl
/-- what digits spell -/
def valD (acc : Nat) : List UInt8 → Nat
  | [] => acc
  | c :: r => valD (stepD acc c) r
theorem valD_cons (acc : Nat) (c : UInt8) (r : List UInt8) : valD acc (c :: r) = valD (stepD acc c) r := rfl
def isD (c : UInt8) : Prop := 48 ≤ c.toNat ∧ c.toNat ≤ 57
theorem valD_append (acc : Nat) (l r : List UInt8) : valD acc (l ++ r) = valD (valD acc l) r := by
  induction l generalizing acc with
  | nil => rfl
  | cons c l ih => exact ih _
theorem valD_le (acc : Nat) (l : List UInt8) : acc ≤ valD acc l := by
  induction l generalizing acc with
  | nil => exact Nat.le_refl _
  | cons c l ih =>
    rw [valD_cons]
    have h1 := stepD_eq acc c
    exact Nat.le_trans (by omega) (ih _)
theorem stepD_zero (c : UInt8) (h : c.toNat = 48) : stepD 0 c = 0 := by rw [stepD_eq, h]
theorem valD_zeros (n : Nat) : valD 0 (List.replicate n 48) = 0 := by
  induction n with
  | zero => rfl
  | succ n ih =>
    rw [List.replicate_succ, valD_cons, stepD_zero 48 rfl, ih]
theorem parseM_digits (M : Nat) (hMM : M = 18446744073709551615) (acc : Nat) (l : List UInt8) (hd : ∀ c ∈ l, isD c) (hM : valD acc l ≤ M) : Lib.parseUintM M acc l = .ok (valD acc l) := by
  induction l generalizing acc with
  | nil => simp only [Lib.parseUintM, valD]
  | cons c l ih =>
    have hc := hd c List.mem_cons_self
    unfold isD at hc
    have hs := stepD_eq acc c
    have h1 := valD_le (stepD acc c) l
    rw [valD_cons] at hM ⊢
    have h3 : ¬ 1844674407370955162 ≤ acc := by omega
    have h4 : ¬ M < acc * 10 + (c.toNat - 48) := by omega
    have h5 := ih (stepD acc c) (fun x hx => hd x (List.mem_cons_of_mem _ hx)) hM
    rw [← h5, Lib.parseUintM, if_pos hc, if_neg h3, if_neg h4, hs]
theorem digit_nat (k : Nat) (h : k < 10) : (UInt8.ofNat (48 + k)).toNat = 48 + k := by
  simp
  omega
theorem dec_isD (u : Nat) : ∀ c ∈ Lib.decDigits u, isD c := by
  induction u using Nat.strongRecOn with
  | ind u ih =>
    intro c hc
    rw [Lib.decDigits] at hc
    split at hc
    · rename_i h
      have := List.mem_singleton.1 hc
      subst this
      unfold isD
      rw [digit_nat _ h]
      omega
    · rename_i h
      rcases List.mem_append.1 hc with h1 | h1
      · exact ih _ (by omega) c h1
      · have := List.mem_singleton.1 h1
        subst this
        unfold isD
        rw [digit_nat _ (by omega)]
        omega
theorem val_dec (u : Nat) : valD 0 (Lib.decDigits u) = u := by
  induction u using Nat.strongRecOn with
  | ind u ih =>
    rw [Lib.decDigits]
    split
    · rename_i h
      rw [valD_cons, stepD_eq, digit_nat _ h]
      show 0 * 10 + (48 + u - 48) = u
      omega
    · rename_i h
      rw [valD_append, ih _ (by omega), valD_cons, stepD_eq, digit_nat _ (by omega)]
      show u / 10 * 10 + (48 + u % 10 - 48) = u
      omega
theorem dec_ne (u : Nat) : Lib.decDigits u ≠ [] := by
  rw [Lib.decDigits]
  split <;> simp
end Go.My
