/- The laws of package coins, as walks: CoinsTexts. -/
import Derived.Test.YtneelnfcjmbboaaDoorCoinsRef6
namespace Go.Proofs.YtneelnfcjmbboaaDoor
open Go.RowKit Go.My
set_option linter.unusedSimpArgs false
set_option linter.unusedVariables false

/-- the library's two errors lie there -/
def Errs (w : World) : Prop := (∃ t p, w.cell? ⟨0, 0, none⟩ = some (.iface t p)) ∧ ∃ t p, w.cell? ⟨1, 0, none⟩ = some (.iface t p)
theorem errs_below {w W : World} (h : Errs w) (hb : Below w.heap.size w W) : Errs W := by
  obtain ⟨⟨t, p, h0⟩, u, q, h1⟩ := h
  exact ⟨⟨t, p, (hb.cell (p := ⟨0, 0, none⟩) (World.block_lt_of_cell? w _ h0)).trans h0⟩, u, q, (hb.cell (p := ⟨1, 0, none⟩) (World.block_lt_of_cell? w _ h1)).trans h1⟩

/-- what is told where no number is read -/
theorem read_bad (s : List UInt8) (d : Int) (w : World) (hs : s.length ≤ 1000000) (he : Errs w) (hp : ∀ v, Lib.parseIntB 64 (plainF (withF d) s) ≠ .ok v) :
    Calls Tryd.prog 18 #[.string ⟨s.toArray⟩, .int .i64 d] w fun e w' => e = .returned (.tuple #[.int .i64 0, .int .i64 3]) ∧ Below w.heap.size w w' := by
  have HW := Lib.hid fun W => within_any d W
  have HP := Lib.hid hp
  clear hp
  have hk6 := withF_le d
  generalize withF d = k at *
  have hpl : ∀ W, Below w.heap.size w W → Calls Tryd.prog 37 #[.string ⟨(plainF k s).toArray⟩, .int .i64 10, .int .i64 64] W fun e W' => ∃ x N, e = .returned (.tuple #[.int .i64 x, .iface 78 (.pointer (some ⟨N, 0, none⟩))]) ∧ Below W.heap.size W W' := by
    intro W hW
    obtain ⟨⟨t, p, h0⟩, u, q, h1⟩ := errs_below he hW
    have hsz : (⟨(plainF k s).toArray⟩ : ByteArray).size ≤ 281474976710656 := by
      show (plainF k s).toArray.size ≤ _
      unfold plainF
      split <;> simp <;> omega
    rcases hc : Lib.parseIntB 64 (plainF k s) with v | _ | _
    · exact absurd hc (HP.out v)
    · refine (Tryd.strconv_ParseInt_10_at64_syntax ⟨(plainF k s).toArray⟩ hsz hc _ W h0 (.inr ⟨t, p, rfl⟩)).mono ?_
      rintro e W' ⟨N, rfl, _, _, hb⟩
      exact ⟨_, N, rfl, hb⟩
    · refine (Tryd.strconv_ParseInt_10_at64_range ⟨(plainF k s).toArray⟩ hsz hc _ W h1 (.inr ⟨u, q, rfl⟩)).mono ?_
      rintro e W' ⟨N, rfl, _, _, hb⟩
      exact ⟨_, N, rfl, hb⟩
  have HPL := Lib.hid hpl
  clear hpl HP he
  have hb0 : Below w.heap.size w w := Below.refl _ _
  have hb0d : ∀ n, Below w.heap.size w (w.drewN n) := fun n => below_drewN hb0 n
  go_enter Tryd.func18, Tryd.ntmps18
  go_wp2_with fail
  refine (HW.out _).mono ?_
  rintro e w1 ⟨rfl, rfl⟩
  by_cases hkl : 0 < k ∧ k + 1 ≤ s.length
  · obtain ⟨hk, hl⟩ := hkl
    have hl' : (0 : Int) ≤ (s.length : Int) - k - 1 := by omega
    have hk' : (0 : Int) < k := by omega
    obtain ⟨m, hm⟩ : ∃ m : Nat, s.length = k + m + 1 := ⟨s.length - k - 1, by omega⟩
    have HMM := Lib.hid hm
    have hpe : ({ data := s.toArray } : ByteArray).extract 0 (k + m + 1 - k - 1) ++ ({ data := s.toArray } : ByteArray).extract (k + m + 1 - k) (k + m + 1) = ⟨(plainF k s).toArray⟩ := by
      rw [ba_extract, ba_extract, ba_append]
      unfold plainF
      rw [if_pos ⟨hk, hl⟩, ← hm, List.take_length]
      simp
    have HPE := Lib.hid hpe
    clear hpe
    go_wp2_with fail
    go_quiet (fail)
    go_wp2_with fail
    rw [HPE.out]
    refine (HPL.out _ (hb0d _)).mono ?_
    rintro e w2 ⟨x, N, rfl, hb2⟩
    have hb2' : Below w.heap.size w w2 := below_fresh (below_drewN hb0 _) hb2 (Nat.le_refl _)
    go_wp2
    go_ret2
    exact ⟨rfl, hb2'⟩
  · have hpe : plainF k s = s := if_neg hkl
    rw [hpe] at HPL
    clear hpe
    by_cases hk : 0 < k
    · have hk' : (0 : Int) < k := by omega
      have hl' : ¬ (0 : Int) ≤ (s.length : Int) - k - 1 := by omega
      have hl2 : (s.length : Int) - k - 1 < 0 := by omega
      have hl3 : (s.length : Int) ≤ k := by omega
      have hl4 : (s.length : Int) - k ≤ 0 := by omega
      have hl5 : ¬ (1 : Int) ≤ (s.length : Int) - k := by omega
      clear hkl
      go_wp2_with fail
      refine (HPL.out _ hb0).mono ?_
      rintro e w2 ⟨x, N, rfl, hb2⟩
      have hb2' : Below w.heap.size w w2 := below_fresh hb0 hb2 (Nat.le_refl _)
      go_wp2
      go_ret2
      exact ⟨rfl, hb2'⟩
    · have hk' : ¬ (0 : Int) < k := by omega
      clear hkl
      go_wp2_with fail
      refine (HPL.out _ hb0).mono ?_
      rintro e w2 ⟨x, N, rfl, hb2⟩
      have hb2' : Below w.heap.size w w2 := below_fresh hb0 hb2 (Nat.le_refl _)
      go_wp2
      go_ret2
      exact ⟨rfl, hb2'⟩

theorem parse_in (l : List UInt8) (v : Int) (h : Lib.parseIntB 64 l = .ok v) : In64 v := by
  have h63 : (2 : Nat) ^ (64 - 1) = 9223372036854775808 := by decide
  unfold Lib.parseIntB at h
  rw [h63] at h
  cases l with
  | nil => simp at h
  | cons c r =>
    simp only at h
    generalize Lib.parseUintB 64 (if c.toNat = 43 ∨ c.toNat = 45 then r else c :: r) = z at h
    rcases z with u | _ | _
    · simp only at h
      unfold In64
      split at h
      · cases h
      · split at h
        · cases h
        · injection h with h
          split at h <;> omega
    · simp at h
    · simp at h

theorem point_head (k : Nat) (P : List UInt8) (h : k < P.length) : (pointF k P).head? = P.head? := by
  unfold pointF
  split
  · rfl
  · cases P with
    | nil => simp at h
    | cons c r =>
      have : (c :: r).length - k = ((c :: r).length - k - 1) + 1 := by omega
      rw [this]
      rfl
theorem read_point (k : Nat) (P : List UInt8) (acc : Nat) : (pointF k P).foldl acc64 acc = P.foldl acc64 acc := by
  unfold pointF
  split
  · rfl
  · rw [acc64_skip _ _ 46 (by decide), List.take_append_drop]
theorem wrap_abs (a : Int) (h : ¬ a < 0) (h2 : a ≤ 9223372036854775807) : wrap64 (a.natAbs : Int) = a := by
  rw [wrap64_eq]
  omega
theorem wrap_neg (a : Int) (h : a < 0) (h2 : -9223372036854775808 ≤ a) : wrap64 (-(wrap64 (a.natAbs : Int))) = a := by
  obtain ⟨n, hn⟩ : ∃ n : Int, n = wrap64 (a.natAbs : Int) := ⟨_, rfl⟩
  have h1 := hn
  rw [wrap64_eq] at h1
  rw [← hn, wrap64_eq]
  omega
/-- a text's digits spell its sum -/
theorem spell_text (a d : Int) (ha : In64 a) : spellF (textF a d) = a := by
  have h64 : a.natAbs < 18446744073709551616 := by unfold In64 at ha; omega
  have hd := pad_isD (withF d) a.natAbs
  have hv := val_pad (withF d) a.natAbs
  have hl := pad_length (withF d) (Lib.decDigits a.natAbs)
  have hf := fold64_digits _ hd 0
  rw [hv, Nat.zero_mod, Nat.mod_eq_of_lt h64] at hf
  unfold textF textD
  generalize padF (withF d) (Lib.decDigits a.natAbs) = P at *
  have hph := point_head (withF d) P (by omega)
  have hrp := read_point (withF d) P 0
  rw [hf] at hrp
  unfold In64 at ha
  by_cases hn : a < 0
  · rw [decide_eq_true hn, if_pos rfl]
    have hr : read64 ([45] ++ pointF (withF d) P) = a.natAbs := by
      unfold read64
      rw [List.foldl_append, List.foldl_cons, List.foldl_nil, acc64_other _ _ (by decide)]
      exact hrp
    unfold spellF
    have hh : (([45] ++ pointF (withF d) P : List UInt8)).head? = some 45 := rfl
    rw [hr, if_pos hh]
    exact wrap_neg a hn ha.1
  · rw [decide_eq_false hn, if_neg (by simp), List.nil_append]
    have hr : read64 (pointF (withF d) P) = a.natAbs := hrp
    unfold spellF
    rw [hr, hph, if_neg]
    · exact wrap_abs a hn ha.2
    · clear hr hrp hf hv ha h64 hph
      cases P with
      | nil => simp at hl; omega
      | cons c r =>
        intro h
        injection h with h
        have := hd c List.mem_cons_self
        unfold isD at this
        rw [h] at this
        exact absurd this.1 (by decide)
theorem textF_len22 (a d : Int) (ha : In64 a) : (textF a d).length ≤ 22 := by
  have h64 : a.natAbs < 18446744073709551616 := by unfold In64 at ha; omega
  have h1 := dec_len a.natAbs h64
  have h2 := withF_le d
  unfold textF textD
  have h3 := pad_length (withF d) (Lib.decDigits a.natAbs)
  generalize padF (withF d) (Lib.decDigits a.natAbs) = P at *
  unfold pointF
  split <;> split <;> simp <;> omega

/-- both read the same of every text -/
theorem reads (s : ByteArray) (d : Int) (w : World) (hs : s.size ≤ 60) (ht : Tab w) (he : Errs w) : ∃ x n : Int,
    (∀ W, Below w.heap.size w W → Calls Tryd.prog 18 #[.string s, .int .i64 d] W fun e W' => e = .returned (.tuple #[.int .i64 x, .int .i64 n]) ∧ Below W.heap.size W W') ∧
    (∀ W, Calls Tryd.prog 19 #[.string s, .int .i64 d] W fun e W' => e = .returned (.tuple #[.int .i64 x, .int .i64 n]) ∧ W = W') := by
  obtain ⟨⟨l⟩⟩ := s
  have hsz : l.length ≤ 60 := hs
  by_cases hex : ∃ a, In64 a ∧ textF a d = l
  · obtain ⟨a, ha, rfl⟩ := hex
    refine ⟨a, 0, fun W hW => read_text a d W ha (tab_below ht hW), fun W => (refread_any _ d W hs).mono ?_⟩
    rintro e W' ⟨rfl, rfl⟩
    refine ⟨?_, rfl⟩
    rw [if_neg (show ¬ 22 < (⟨⟨textF a d⟩⟩ : ByteArray).size by have h := textF_len22 a d ha; have h' : (⟨⟨textF a d⟩⟩ : ByteArray).size = (textF a d).length := rfl; omega)]
    show Ending.returned (readV (textF (spellF (textF a d)) d) (textF a d) (spellF (textF a d))) = _
    rw [spell_text a d ha]
    unfold readV
    rw [if_pos rfl]
  · have hno : ∀ a, In64 a → textF a d ≠ l := fun a ha h => hex ⟨a, ha, h⟩
    refine ⟨0, 3, fun W hW => ?_, fun W => (refread_any _ d W hs).mono ?_⟩
    · by_cases hok : ∃ v, Lib.parseIntB 64 (plainF (withF d) l) = .ok v
      · obtain ⟨v, hv⟩ := hok
        have hvi := parse_in _ _ hv
        refine (read_ok l d v (textF v d) W (by omega) hv (fun W' hW' => by
          refine (text_any v (withF d : Int) W' hvi (tab_below (tab_below ht hW) hW')).mono ?_
          rintro e w' ⟨rfl, hb⟩
          refine ⟨?_, below_fresh hW' hb hW'.size⟩
          unfold textF
          rw [withF_idem])).mono ?_
        rintro e W' ⟨rfl, hb⟩
        refine ⟨?_, hb⟩
        unfold readV
        rw [if_neg (hno v hvi)]
      · exact read_bad l d W (by omega) (errs_below he hW) (fun v hv => hok ⟨v, hv⟩)
    · rintro e W' ⟨rfl, rfl⟩
      refine ⟨?_, rfl⟩
      split
      · rfl
      · unfold readV
        rw [if_neg (hno _ (spellF_in _))]

set_option maxHeartbeats 1000000 in
theorem coinsTexts_walk (a : Int) (s : ByteArray) (d : Int) (w : World) (ha : -9223372036854775808 ≤ a ∧ a ≤ 9223372036854775807) (hs : s.size ≤ maxLen) (hd : -9223372036854775808 ≤ d ∧ d ≤ 9223372036854775807) (ht : Tab w) (he : Errs w) :
    Calls Tryd.prog 4 #[.int .i64 a, .string s, .int .i64 d] w (RetTrue w) := by
  have hmin : min (s.size : Int) 60 = ((min s.size 60 : Nat) : Int) := by omega
  have hcm : s.size ≤ 9223372036854775807 := by simp only [maxLen] at hs; omega
  obtain ⟨N, hN⟩ : ∃ N, N = min s.size 60 := ⟨_, rfl⟩
  rw [← hN] at hmin
  have hNs : N ≤ s.size := by omega
  have hN60 : N ≤ 60 := by omega
  obtain ⟨t, hT⟩ : ∃ t, t = s.extract 0 N := ⟨_, rfl⟩
  have htz : t.size ≤ 60 := by rw [hT]; simp; omega
  obtain ⟨x, n, h1, h2⟩ := reads t d w htz ht he
  have HR1 := Lib.hid h1
  have HR2 := Lib.hid h2
  have HT1 : Hid (∀ W, Below w.heap.size w W → Calls Tryd.prog 20 #[.int .i64 a, .int .i64 d] W fun e W' => e = .returned (.string ⟨(textF a d).toArray⟩) ∧ Below W.heap.size W W') := fun W hW => text_any a d W ha (tab_below ht hW)
  have HT2 := Lib.hid fun W => reftext_any a d W ha
  have HT := Lib.hid hT
  generalize textF a d = T at *
  clear hN h1 h2 ha hd ht he hT hs
  go_enter Tryd.func4, Tryd.ntmps4
  go_wp2_with fail
  refine (livesC _).mono ?_
  rintro e w1 ⟨rfl, hb1⟩
  go_wp2_with fail
  rw [← HT.out]
  refine (HR1.out _ hb1).mono ?_
  rintro e w2 ⟨rfl, hb2⟩
  have hb2' := below_fresh hb1 hb2 hb1.size
  go_wp2_with fail
  refine (HR2.out _).mono ?_
  rintro e w3 ⟨rfl, rfl⟩
  go_wp2_with fail
  refine (HT1.out _ hb2').mono ?_
  rintro e w3 ⟨rfl, hb3⟩
  have hb3' := below_fresh hb2' hb3 hb2'.size
  go_wp2_with fail
  refine (HT2.out _).mono ?_
  rintro e w4 ⟨rfl, rfl⟩
  go_wp2
  go_ret
  exact ⟨rfl, hb3'⟩
end Go.Proofs.YtneelnfcjmbboaaDoor
