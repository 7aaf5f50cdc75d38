/- Contracts of the document's own answers for coins: Text. -/
import Derived.Test.YtdmjnheohjegdaaDoorCoins5
import Derived.Test.YtdmjnheohjegdaaDoorCoinsMath3
namespace Go.Proofs.YtdmjnheohjegdaaDoor
open Go.RowKit Go.My
set_option linter.unusedSimpArgs false
set_option linter.unusedVariables false

/-- all digits there: the text -/
theorem stt_text (N k i : Nat) (hi : i = max (Lib.decDigits N).length (k + 1)) : stt N k i = pointF k (padF k (Lib.decDigits N)) := by
  have h1 := lowd_full N i (by omega)
  have h2 : lowd N i = padF k (Lib.decDigits N) := by
    rw [h1]
    unfold padF
    congr 2
    omega
  have h3 := pad_length k (Lib.decDigits N)
  unfold stt pointF
  rw [h2, h3]
  by_cases hk : k = 0
  · rw [if_pos (.inl hk), if_pos hk]
  · rw [if_neg (by omega), if_neg hk, show max (k + 1) (Lib.decDigits N).length = i by omega]

def TxtRel (N k : Nat) (w : World) (nv sv iv : Value) (wr : World) : Prop :=
  ∃ i : Nat, i ≤ max (Lib.decDigits N).length (k + 1) ∧ iv = .int .i64 i ∧ nv = .int .u64 ((N / 10 ^ i : Nat) : Int) ∧ sv = .string ⟨(stt N k i).toArray⟩ ∧ wr = w

theorem digit_cut (m : Nat) : (⟨#[48, 49, 50, 51, 52, 53, 54, 55, 56, 57]⟩ : ByteArray).extract (m % 10) (m % 10 + 1) = ⟨[dg m].toArray⟩ := by
  unfold dg
  have h : m % 10 < 10 := Nat.mod_lt _ (by omega)
  generalize m % 10 = d at *
  match d, h with
  | 0, _ | 1, _ | 2, _ | 3, _ | 4, _ | 5, _ | 6, _ | 7, _ | 8, _ | 9, _ => decide

theorem txt_end {N k i n : Nat} {S2 : List UInt8} {w : World} {iv : Int} (hi : iv = (i : Int)) (hx : i + 1 ≤ max (Lib.decDigits N).length (k + 1)) (hn : n / 10 = N / 10 ^ (i + 1)) (hs : stt N k (i + 1) = dg n :: S2) :
    TxtRel N k w (.int .u64 ((n : Int) / 10)) (.string ((⟨#[48, 49, 50, 51, 52, 53, 54, 55, 56, 57]⟩ : ByteArray).extract (n % 10) (n % 10 + 1) ++ ⟨S2.toArray⟩)) (.int .i64 (iv + 1)) w ∧
      max (Lib.decDigits N).length (k + 1) - (intOf (.int .i64 (iv + 1))).toNat < max (Lib.decDigits N).length (k + 1) - (intOf (.int .i64 (i : Int))).toNat := by
  subst hi
  refine ⟨⟨i + 1, hx, by go_num, ?_, ?_, rfl⟩, by simp [intOf]; omega⟩
  · rw [← hn]
    congr 1
  · rw [digit_cut, ba_append, hs]
    rfl

set_option maxRecDepth 100000 in
set_option maxHeartbeats 4000000 in
theorem reftext_any (a d : Int) (w : World) (ha : In64 a) : Calls Tryd.prog 21 #[.int .i64 a, .int .i64 d] w fun e w' => e = .returned (.string ⟨(textF a d).toArray⟩) ∧ w = w' := by
  have hN : a.natAbs < 18446744073709551616 := by unfold In64 at ha; omega
  have hl20 := dec_len a.natAbs hN
  have hk6 := withF_le d
  have hmm : Hid (min (max d 0) 6 = ((withF d : Nat) : Int)) := by show _ = _; unfold withF; omega
  have HFIN : Hid (textF a d = textD (decide (a < 0)) (withF d) (Lib.decDigits a.natAbs)) := rfl
  have hst : ∀ W, TxtRel a.natAbs (withF d) W (.int .u64 (a.natAbs : Int)) (.string ⟨#[]⟩) (.int .i64 0) W := fun W => ⟨0, Nat.zero_le _, rfl, by simp, by rw [stt_zero], rfl⟩
  generalize withF d = k at *
  unfold In64 at ha
  have HST := Lib.hid hst
  have HN := Lib.hid hN
  have HL := Lib.hid hl20
  have hcase : (a < 0 ∧ IntKind.u64.wrap (-(IntKind.u64.wrap a)) = (a.natAbs : Int)) ∨ (¬ a < 0 ∧ IntKind.u64.wrap a = (a.natAbs : Int)) := by
    by_cases h : a < 0
    · exact .inl ⟨h, by simp [IntKind.wrap_u64]; omega⟩
    · exact .inr ⟨h, by simp [IntKind.wrap_u64]; omega⟩
  clear hst hN hl20 ha
  generalize a.natAbs = N at *
  rcases hcase with ⟨hneg, hwr⟩ | ⟨hneg, hwr⟩
  all_goals
    have HNEG := Lib.hid hneg
    go_enter Tryd.func21, Tryd.ntmps21
    go_upto_region 1 with (fail)
    go_cut [1] (fun s1 wx => s1 = .int .i64 (k : Int) ∧ w = wx)
    case first =>
      have h := hmm.out
      clear hwr
      go_wp2
      all_goals
        go_meet
        refine ⟨?_, rfl⟩
        congr 1
        try omega
    case rest =>
      obtain ⟨rfl, rfl⟩ := hcut
      go_wp2
      go_loop [5, 6, 7] (fun nv sv iv => TxtRel N k w nv sv iv w) (fun _ _ iv => max (Lib.decDigits N).length (k + 1) - (intOf iv).toNat)
      case atStart => exact HST.out w
      case round =>
        obtain ⟨i, hi, rfl, rfl, rfl, _⟩ := hrel
        have HI := Lib.hid hi
        have hN2 : N / 10 ^ i ≤ N := Nat.div_le_self _ _
        have hnb : ((N / 10 ^ i : Nat) : Int) ≤ 18446744073709551615 := by have := HN.out; omega
        have hib : i ≤ 30 := by have := HL.out; omega
        have HDL := Lib.hid (dec_left N i)
        have HDD := Lib.hid (dec_done N i)
        have HQ : Hid (N / 10 ^ i / 10 = N / 10 ^ (i + 1)) := by show _ = _; rw [Nat.pow_succ, Nat.div_div_eq_div_mul]
        have HS1 := Lib.hid (stt_low N k i)
        have HS2 := Lib.hid (stt_high N k i)
        have HS3 := Lib.hid (stt_at N k)
        have HSL := Lib.hid (stt_length N k i)
        have HSE := Lib.hid (stt_text N k i)
        clear hi hN2
        generalize hn : N / 10 ^ i = n at *
        generalize hst : stt N k i = S at *
        have HSS := Lib.hid hst
        have HNN := Lib.hid hn
        clear hst hn
        have hsl : S.length ≤ 40 := by have := HSL.out; omega
        by_cases hgo : 0 < n ∨ i ≤ k
        · have hnx : i + 1 ≤ max (Lib.decDigits N).length (k + 1) := by
            have h1 := HDL.out
            rcases hgo with h | h
            · have := h1 h; omega
            · omega
          have HNX := Lib.hid hnx
          clear hnx
          have q1 : (n : Int).tmod 10 = ((n % 10 : Nat) : Int) := by rw [Int.tmod_eq_emod_of_nonneg (by omega)]; omega
          have q2 : (n : Int).tdiv 10 = ((n / 10 : Nat) : Int) := by rw [Int.tdiv_eq_ediv_of_nonneg (by omega)]; omega
          have q3 : n % 10 < 10 := Nat.mod_lt _ (by omega)
          have hgo' := Lib.hid hgo
          have hpt : Hid (i = k → 0 < k → stt N k (i + 1) = dg n :: 46 :: S) := fun h1 h2 => by
            subst h1
            have h3 := HS3.out h2
            rw [HNN.out, HSS.out] at h3
            exact h3
          clear hgo
          by_cases h1 : 0 < n <;> by_cases h4 : i ≤ k <;> by_cases h2 : i = k <;> by_cases h3 : 0 < k
          all_goals
            have hik : 0 < n ∨ i ≤ k := hgo'.out
            first
              | (exfalso; omega)
              | (clear hik
                 go_wp2
                 first
                   | exact txt_end (S2 := 46 :: S) (by omega) HNX.out HQ.out (hpt.out h2 h3)
                   | exact txt_end (by omega) HNX.out HQ.out (HS1.out (by omega))
                   | exact txt_end (by omega) HNX.out HQ.out (HS2.out (by omega) (by omega)))
        · obtain ⟨h1, h2⟩ : ¬ 0 < n ∧ ¬ i ≤ k := by omega
          have HE : Hid (S = pointF k (padF k (Lib.decDigits N))) := HSE.out (by have h3 := HDD.out (by omega) (by omega); have h4 := HI.out; omega)
          clear hgo
          go_wp2
          go_ret
          refine ⟨?_, rfl⟩
          rw [HFIN.out, textD, ← HE.out]
          simp [HNEG.out]
          try rfl
end Go.Proofs.YtdmjnheohjegdaaDoor
