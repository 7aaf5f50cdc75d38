/- Contracts of package coins: what Text writes, Read reads. -/
import Derived.Test.YtdmjnheohjegdaaDoorCoins4
import Derived.Test.YtdmjnheohjegdaaDoorCoinsMath2
import Derived.Lib.AppendIntMem
namespace Go.Proofs.YtdmjnheohjegdaaDoor
open Go.RowKit Go.My Go.Sort
set_option linter.unusedSimpArgs false
set_option linter.unusedVariables false

theorem pad_isD (k u : Nat) : ∀ c ∈ padF k (Lib.decDigits u), isD c := by
  intro c hc
  unfold padF at hc
  rcases List.mem_append.1 hc with h | h
  · have := List.eq_of_mem_replicate h
    subst this
    unfold isD
    decide
  · exact dec_isD u c h
theorem val_pad (k u : Nat) : valD 0 (padF k (Lib.decDigits u)) = u := by
  unfold padF
  rw [valD_append, valD_zeros, val_dec]
theorem pad_length (k : Nat) (D : List UInt8) : (padF k D).length = max (k + 1) D.length := by
  unfold padF
  simp
  omega
theorem plain_text (neg : Bool) (k : Nat) (D : List UInt8) : plainF k (textD neg k D) = (if neg then [45] else []) ++ padF k D := by
  unfold textD
  have hl := pad_length k D
  generalize padF k D = P at *
  generalize (if neg = true then [(45 : UInt8)] else []) = sg
  unfold pointF
  by_cases hk : k = 0
  · subst hk
    rw [if_pos rfl]
    unfold plainF
    rw [if_neg (by omega)]
  · rw [if_neg hk]
    have h1 : (sg ++ (P.take (P.length - k) ++ 46 :: P.drop (P.length - k))).length = sg.length + P.length + 1 := by simp; omega
    unfold plainF
    rw [if_pos ⟨by omega, by rw [h1]; omega⟩, h1]
    have e1 : sg.length + P.length + 1 - k - 1 = sg.length + (P.length - k) := by omega
    have e2 : sg.length + P.length + 1 - k = sg.length + ((P.length - k) + 1) := by omega
    have h2 : (P.take (P.length - k)).length = P.length - k := by simp
    rw [e1, e2, List.take_length_add_append, List.drop_length_add_append]
    have t1 : (P.take (P.length - k) ++ 46 :: P.drop (P.length - k)).take (P.length - k) = P.take (P.length - k) := List.take_left' h2
    have t2 : (P.take (P.length - k) ++ 46 :: P.drop (P.length - k)).drop (P.length - k + 1) = P.drop (P.length - k) := by
      rw [List.drop_append, List.drop_of_length_le (by omega), h2]
      simp
    rw [t1, t2, List.append_assoc, List.take_append_drop]
theorem parse_text (a : Int) (k : Nat) (ha : In64 a) : Lib.parseIntB 64 ((if decide (a < 0) then [45] else []) ++ padF k (Lib.decDigits a.natAbs)) = .ok a := by
  have hd := pad_isD k a.natAbs
  have hv := val_pad k a.natAbs
  have hl := pad_length k (Lib.decDigits a.natAbs)
  unfold In64 at ha
  generalize padF k (Lib.decDigits a.natAbs) = P at *
  have hne : P ≠ [] := by intro h; rw [h] at hl; simp at hl; omega
  have hu : Lib.parseUintB 64 P = .ok a.natAbs := by
    have hM : (2 : Nat) ^ 64 - 1 = 18446744073709551615 := by decide
    unfold Lib.parseUintB
    rw [if_neg hne, hM, parseM_digits 18446744073709551615 rfl 0 P hd (by rw [hv]; omega), hv]
  have h63 : (2 : Nat) ^ (64 - 1) = 9223372036854775808 := by decide
  by_cases hn : a < 0
  · rw [decide_eq_true hn, if_pos rfl]
    show Lib.parseIntB 64 (45 :: P) = _
    unfold Lib.parseIntB
    have h45 : (45 : UInt8).toNat = 45 := rfl
    simp only [h45, true_or, or_true, if_true, hu, h63, not_true, false_and, if_false, true_and]
    rw [if_neg (by omega)]
    congr 1
    omega
  · rw [decide_eq_false hn, if_neg (by simp)]
    show Lib.parseIntB 64 P = _
    cases P with
    | nil => exact absurd rfl hne
    | cons c r =>
      have hc := hd c List.mem_cons_self
      unfold isD at hc
      unfold Lib.parseIntB
      have h1 : ¬ c.toNat = 43 := by omega
      have h2 : ¬ c.toNat = 45 := by omega
      simp only [h1, h2, or_self, if_false, hu, not_false_eq_true, true_and, h63, false_and]
      rw [if_neg (by omega)]
      congr 1
      omega
theorem dec_len (u : Nat) (h : u < 18446744073709551616) : (Lib.decDigits u).length ≤ 20 := by
  rw [Lib.decDigits_length]
  rcases Nat.eq_zero_or_pos u with rfl | h1
  · rw [Lib.nDigits_small (by omega)]; omega
  · have := Lib.numDigits_eq u h1 h; split at this <;> omega
theorem withF_idem (d : Int) : withF (withF d : Int) = withF d := by unfold withF; omega

theorem tab_below {w W : World} (h : Tab w) (hb : Below w.heap.size w W) : Tab W := Lib.tabBelow_of_tabIs h W hb
/-- a sum's text -/
def textF (a d : Int) : List UInt8 := textD (decide (a < 0)) (withF d) (Lib.decDigits a.natAbs)
theorem text_any (a d : Int) (w : World) (ha : In64 a) (ht : Tab w) : Calls Tryd.prog 27 #[.int .i64 a, .int .i64 d] w fun e w' => e = .returned (.string ⟨(textF a d).toArray⟩) ∧ Below w.heap.size w w' := by
  have h64 : a.natAbs < 18446744073709551616 := by unfold In64 at ha; omega
  refine text_of a d _ w ha (by have := dec_len a.natAbs h64; omega) fun W hW => ?_
  refine (fmtu_any a.natAbs W h64 (tab_below ht hW)).mono ?_
  rintro e w' ⟨rfl, hb⟩
  exact ⟨rfl, below_fresh hW hb hW.size⟩
theorem textF_len (a d : Int) (ha : In64 a) : (textF a d).length ≤ 30 := by
  have h64 : a.natAbs < 18446744073709551616 := by unfold In64 at ha; omega
  have h1 := dec_len a.natAbs h64
  have h2 := withF_le d
  unfold textF textD
  have h3 := pad_length (withF d) (Lib.decDigits a.natAbs)
  generalize padF (withF d) (Lib.decDigits a.natAbs) = P at *
  unfold pointF
  split <;> split <;> simp <;> omega
end Go.Proofs.YtdmjnheohjegdaaDoor
