/- The laws of package coins, as walks: CoinsDigits. -/
import Derived.Test.YtneelnfcjmbboaaDoorCoins5
namespace Go.Proofs.YtneelnfcjmbboaaDoor
open Go.RowKit Go.My Go.Sort
set_option linter.unusedSimpArgs false
set_option linter.unusedVariables false

theorem pad_ten (k u : Nat) : padF (k + 1) (Lib.decDigits (10 * u)) = padF k (Lib.decDigits u) ++ [48] := by
  rcases Nat.eq_zero_or_pos u with rfl | hu
  · rw [show 10 * 0 = 0 from rfl]
    have h0 : Lib.decDigits 0 = [48] := by rw [Lib.decDigits, dif_pos (by omega)]; rfl
    rw [h0]
    unfold padF
    simp only [List.length_singleton]
    rw [show k + 1 + 1 - 1 = k + 1 by omega, show k + 1 - 1 = k by omega, List.replicate_succ']
  · have h1 : Lib.decDigits (10 * u) = Lib.decDigits u ++ [48] := by
      conv => lhs; rw [Lib.decDigits]
      rw [dif_neg (by omega), show 10 * u / 10 = u by omega, show 10 * u % 10 = 0 by omega]
      rfl
    rw [h1]
    unfold padF
    rw [List.length_append, List.length_singleton, show k + 1 + 1 - ((Lib.decDigits u).length + 1) = k + 1 - (Lib.decDigits u).length by omega, List.append_assoc]
theorem text_ten (a : Int) (k : Nat) (hk : k ≤ 5) : textF (a * 10) ((k : Int) + 1) = textF a (k : Int) ++ (if k = 0 then [46, 48] else [48]) := by
  have w1 : withF ((k : Int) + 1) = k + 1 := by unfold withF; omega
  have w2 : withF (k : Int) = k := by unfold withF; omega
  have hn : decide (a * 10 < 0) = decide (a < 0) := by congr 1; simp only [eq_iff_iff]; omega
  have hu : (a * 10).natAbs = 10 * a.natAbs := by omega
  unfold textF
  rw [w1, w2, hn, hu]
  unfold textD
  rw [pad_ten]
  have hl := pad_length k (Lib.decDigits a.natAbs)
  generalize padF k (Lib.decDigits a.natAbs) = P at *
  generalize (if decide (a < 0) = true then [(45 : UInt8)] else []) = sg
  unfold pointF
  rw [if_neg (by omega), List.length_append, List.length_singleton, show P.length + 1 - (k + 1) = P.length - k by omega]
  have t1 : (P ++ [48]).take (P.length - k) = P.take (P.length - k) := by rw [List.take_append_of_le_length (by omega)]
  have t2 : (P ++ [48]).drop (P.length - k) = P.drop (P.length - k) ++ [48] := by rw [List.drop_append_of_le_length (by omega)]
  rw [t1, t2]
  by_cases h0 : k = 0
  · subst h0
    rw [if_pos rfl, if_pos rfl]
    simp
  · rw [if_neg h0, if_neg h0]
    simp

set_option maxHeartbeats 1000000 in
theorem coinsDigits_walk (a m : Int) (w : World) (ha : -9223372036854775808 ≤ a ∧ a ≤ 9223372036854775807) (hm : -9223372036854775808 ≤ m ∧ m ≤ 9223372036854775807) (ht : Tab w) :
    Calls Tryd.prog 10 #[.int .i64 a, .int .i64 m] w (RetTrue w) := by
  obtain ⟨k, hn, hkl⟩ := umod m 6 (by omega) (by omega)
  have e : (IntKind.u64.wrap m).tmod ((6 : Nat) : Int) = (IntKind.u64.wrap m).tmod 6 := rfl
  rw [e] at hn
  have hT := fun W => times_any a 10 W ha (by unfold In64; omega)
  have HT := Lib.hid hT
  clear hT
  by_cases hin : In64 (a * 10)
  · rw [two64_in hin] at HT
    have HTX1 := Lib.hid fun W hW => text_any (a * 10) ((k : Int) + 1) W hin (tab_below ht hW)
    have HTX2 := Lib.hid fun W hW => text_any a (k : Int) W ha (tab_below ht hW)
    have HRD := Lib.hid fun W hW => read_text (a * 10) ((k : Int) + 1) W hin (tab_below ht hW)
    have htt := text_ten a k (by omega)
    have hlen := textF_len a (k : Int) ha
    rw [htt] at HTX1 HRD
    clear htt ht e hm ha hin
    generalize textF a (k : Int) = S at *
    have hsz : (⟨S.toArray⟩ : ByteArray).size ≤ 30 := hlen
    by_cases h0 : k = 0
    · rw [if_pos h0] at HTX1 HRD
      rw [← ba_append] at HTX1 HRD
      have hbf : ((⟨S.toArray⟩ ++ ⟨[46, 48].toArray⟩ : ByteArray) == ⟨S.toArray⟩ ++ ⟨[48].toArray⟩) = false := by
        show ((⟨S.toArray⟩ ++ ⟨[46, 48].toArray⟩ : ByteArray).data == (⟨S.toArray⟩ ++ ⟨[48].toArray⟩ : ByteArray).data) = false
        rw [beq_eq_false_iff_ne]
        intro h
        have := congrArg Array.size h
        simp at this
      subst h0
      simp only [Int.natCast_zero, Int.zero_add] at HTX1 HTX2 HRD hn
      generalize (⟨S.toArray⟩ : ByteArray) = sB at *
      go_enter Tryd.func10, Tryd.ntmps10
      go_wp2_with fail
      refine (livesC _).mono ?_
      rintro e w1 ⟨rfl, hb1⟩
      go_wp2_with fail
      refine (HT.out _).mono ?_
      rintro e w2 ⟨rfl, rfl⟩
      go_wp2_with fail
      refine (HTX1.out _ hb1).mono ?_
      rintro e w2 ⟨rfl, hb2⟩
      have hb2' := below_fresh hb1 hb2 hb1.size
      go_wp2_with fail
      refine (HRD.out _ hb2').mono ?_
      rintro e w3 ⟨rfl, hb3⟩
      have hb3' := below_fresh hb2' hb3 hb2'.size
      go_wp2_with fail
      refine (HTX2.out _ hb3').mono ?_
      rintro e w4 ⟨rfl, hb4⟩
      have hb4' := below_fresh hb3' hb4 hb3'.size
      go_wp2_with fail
      refine (HTX1.out _ hb4').mono ?_
      rintro e w5 ⟨rfl, hb5⟩
      have hb5' := below_fresh hb4' hb5 hb4'.size
      go_wp2
      all_goals
        go_ret
        exact ⟨rfl, hb5'⟩
    · rw [if_neg h0] at HTX1 HRD
      rw [← ba_append] at HTX1 HRD
      generalize (⟨S.toArray⟩ : ByteArray) = sB at *
      go_enter Tryd.func10, Tryd.ntmps10
      go_wp2_with fail
      refine (livesC _).mono ?_
      rintro e w1 ⟨rfl, hb1⟩
      go_wp2_with fail
      refine (HT.out _).mono ?_
      rintro e w2 ⟨rfl, rfl⟩
      go_wp2_with fail
      refine (HTX1.out _ hb1).mono ?_
      rintro e w2 ⟨rfl, hb2⟩
      have hb2' := below_fresh hb1 hb2 hb1.size
      go_wp2_with fail
      refine (HRD.out _ hb2').mono ?_
      rintro e w3 ⟨rfl, hb3⟩
      have hb3' := below_fresh hb2' hb3 hb2'.size
      go_wp2_with fail
      refine (HTX2.out _ hb3').mono ?_
      rintro e w4 ⟨rfl, hb4⟩
      have hb4' := below_fresh hb3' hb4 hb3'.size
      go_wp2_with fail
      refine (HTX1.out _ hb4').mono ?_
      rintro e w5 ⟨rfl, hb5⟩
      have hb5' := below_fresh hb4' hb5 hb4'.size
      go_wp2
      all_goals
        go_ret
        exact ⟨rfl, hb5'⟩
  · rw [two64_out hin] at HT
    unfold In64 at hin
    go_enter Tryd.func10, Tryd.ntmps10
    go_wp2_with fail
    refine (livesC _).mono ?_
    rintro e w1 ⟨rfl, hb1⟩
    go_wp2_with fail
    refine (HT.out _).mono ?_
    rintro e w2 ⟨rfl, rfl⟩
    by_cases h1 : 100000000000000000 < a
    · clear hin ha hn
      go_wp2
      go_ret
      exact ⟨rfl, hb1⟩
    · have h2 : a < -100000000000000000 := by omega
      clear hin ha hn
      go_wp2
      go_ret
      exact ⟨rfl, hb1⟩
end Go.Proofs.YtneelnfcjmbboaaDoor
