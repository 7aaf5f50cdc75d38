/- The heap of names: one that goes down. -/
import Derived.Test.YtcjofakhefpfdaaKnH2
namespace Go.Proofs.Ytcjofakhefpfdaa
open Go.RowKit Go.My Go.My.Hp Go.Maps
set_option linter.unusedSimpArgs false
set_option linter.unusedVariables false
attribute [local go_sem ↓] Go.wp_at_zero Go.wp_at_succ

def DnR (B : Nat → Prop) (w : World) (p : Nat) (A : Option Addr) (c n m : Nat) (L : List Int) (iv : Value) (wr : World) : Prop :=
  ∃ (i : Nat) (M : List Int), iv = .int .i64 (i : Int) ∧ M.length = n ∧ HpS B wr p A c M ∧ Dn (at_ M) m i ∧ i ≤ m ∧ M.Perm L ∧ (∀ k, m ≤ k → at_ M k = at_ L k) ∧ Fr (AtO (Value.slice A n c).ownBlock) w wr

theorem swl_dn {M : List Int} {n m i j : Nat} (hl : M.length = n) (hmn : m ≤ n) (h : Dn (at_ M) m i) (hj : j < m) (hp : (j - 1) / 2 = i) (hj0 : 0 < j) (hs : ∀ k, 0 < k → k < m → (k - 1) / 2 = i → at_ M j ≤ at_ M k) (hlt : at_ M j < at_ M i) :
    Dn (at_ (swl M i j)) m j ∧ ∀ k, m ≤ k → at_ (swl M i j) k = at_ M k := by
  have e : at_ (swl M i j) = sw (at_ M) i j := funext fun k => at_swl (by omega) (by omega) k
  rw [e]
  exact ⟨h.step hj hp hj0 hs hlt, fun k hk => sw_ne _ (by omega) (by omega)⟩

set_option maxRecDepth 100000 in
set_option maxHeartbeats 4000000 in
theorem hdown_any {B : Nat → Prop} {w : World} {p : Nat} {A : Option Addr} {c : Nat} {L : List Int} (h : HpS B w p A c L) (m : Nat) (hm : m ≤ L.length) (hd : Dn (at_ L) m 0) (hn : L.length ≤ 1000000) :
    Calls Try.prog 36 #[.iface 39 (.pointer (some ⟨p, 0, none⟩)), .int .i64 0, .int .i64 (m : Int)] w fun e w' => (∃ b, e = .returned (.bool b)) ∧ ∃ M : List Int, M.Perm L ∧ M.length = L.length ∧ Hp (at_ M) m ∧ (∀ k, m ≤ k → at_ M k = at_ L k) ∧ HpS B w' p A c M ∧ Fr (AtO (Value.slice A L.length c).ownBlock) w w' := by
  obtain ⟨n, hnl⟩ : ∃ n, n = L.length := ⟨_, rfl⟩
  rw [← hnl]
  rw [← hnl] at hn hm
  have HH := Lib.hid h
  have HD := Lib.hid hd
  have HNL := Lib.hid hnl
  have HM := Lib.hid hm
  clear h hd hnl hm
  go_enter Try.func36, Try.ntmps36
  go_wp2
  go_loopw [7] (fun iv wr => DnR B w p A c n m L iv wr) (fun iv _ => m - (intOf iv).toNat)
  case atStart => exact ⟨0, L, rfl, HNL.out.symm, HH.out, HD.out, Nat.zero_le _, List.Perm.refl _, fun _ _ => rfl, Fr.refl _ _⟩
  case round =>
    obtain ⟨i, M, rfl, hl, hp, hdn, him, hperm, hfar, hf⟩ := hrel
    have HP := Lib.hid hp
    have HDN := Lib.hid hdn
    have HPM := Lib.hid hperm
    have HFA := Lib.hid hfar
    have HF := Lib.hid hf
    have HL := Lib.hid hl
    have hmn := HM.out
    have c1 := hp.cell
    rw [hl] at c1
    have q1 := m_less c1
    have q2 := n_less (W := wr) (p := p)
    clear hp hdn hperm hf hl hfar
    obtain ⟨j1, hj1⟩ : ∃ j1, j1 = 2 * i + 1 := ⟨_, rfl⟩
    have g1 : wrap64 (2 * (i : Int)) = 2 * (i : Int) := by unfold wrap64; omega
    have g2 : wrap64 (2 * (i : Int) + 1) = (j1 : Int) := by unfold wrap64; omega
    have g3 : wrap64 ((j1 : Int) + 1) = (j1 : Int) + 1 := by unfold wrap64; omega
    have HJ1 := Lib.hid hj1
    have HIM := Lib.hid him
    have HMN := Lib.hid hmn
    have HLS : Hid (∀ W a b, Fr No wr W → a < n → b < n → Calls Try.prog 73 #[.slice A n c, .int .i64 (a : Int), .int .i64 (b : Int)] W fun e w' => e = .returned (.bool (decide (at_ M a < at_ M b))) ∧ Fr No wr w') := Lib.hid (fun W a b hW ha hb => by
      have := hless_any (HP.out.no hW) a b (by rw [HL.out]; exact ha) (by rw [HL.out]; exact hb)
      rw [HL.out] at this
      exact this.mono fun _ _ h => ⟨h.1, hW.trans h.2⟩)
    have HSW : Hid (∀ W a b, Fr No wr W → a < n → b < n → Calls Try.prog 76 #[.slice A n c, .int .i64 (a : Int), .int .i64 (b : Int)] W fun e w' => e = .returned (.tuple #[]) ∧ HpS B w' p A c (swl M a b) ∧ Fr (AtO (Value.slice A n c).ownBlock) W w') := Lib.hid (fun W a b hW ha hb => by
      have := hswap_any (HP.out.no hW) a b (by rw [HL.out]; exact ha) (by rw [HL.out]; exact hb)
      rw [HL.out] at this
      exact this)
    have HCL : Hid (∀ W, Fr No wr W → W.cell? ⟨p, 0, none⟩ = some (.slice A n c)) := Lib.hid (fun W hW => (HP.out.no hW).cell.trans (by rw [HL.out]))
    by_cases hge : m ≤ j1
    · have hgeI : (m : Int) ≤ (j1 : Int) := by omega
      have HGE := Lib.hid hge
      clear hj1 him hmn hge
      go_wp2
      refine bodyPost_ret (results_tmp rfl _ _ _) rfl ?_
      refine ⟨⟨_, rfl⟩, M, HPM.out, HL.out, HDN.out.done (fun k h0 h1 h2 => ?_), HFA.out, HP.out, HF.out⟩
      have := HJ1.out
      have := HGE.out
      omega
    · have hj1m : j1 < m := by omega
      have hgeI : (j1 : Int) < (m : Int) := by omega
      have hj0I : (0 : Int) ≤ (j1 : Int) := by omega
      have HJM := Lib.hid hj1m
      clear hge
      by_cases h2 : j1 + 1 < m
      · have h2I : (j1 : Int) + 1 < (m : Int) := by omega
        have HJ2 := Lib.hid h2
        obtain ⟨b1, hb1⟩ : ∃ b1, b1 = decide (at_ M (j1 + 1) < at_ M j1) := ⟨_, rfl⟩
        have HB1 := Lib.hid hb1
        have HL1 : Hid (∀ W, Fr No wr W → Calls Try.prog 73 #[.slice A n c, .int .i64 ((j1 : Int) + 1), .int .i64 (j1 : Int)] W fun e w' => e = .returned (.bool b1) ∧ Fr No wr w') := Lib.hid (fun W hW => by have := HLS.out W (j1 + 1) j1 hW (by omega) (by omega); rw [← hb1] at this; exact this)
        clear hb1
        cases b1
        · clear h2
          obtain ⟨b2, hb2⟩ : ∃ b2, b2 = decide (at_ M (j1) < at_ M i) := ⟨_, rfl⟩
          have HB2 := Lib.hid hb2
          have HMIN : Hid (∀ k, 0 < k → k < m → (k - 1) / 2 = i → at_ M (j1) ≤ at_ M k) := Lib.hid (by
            intro k h0 h1 h2
            have e := of_decide_eq_false HB1.out.symm
            have hj1 := HJ1.out
            rcases (show k = j1 ∨ k = j1 + 1 by omega) with rfl | rfl
            · exact Int.le_refl _
            · omega)
          have HL2 : Hid (∀ W, Fr No wr W → Calls Try.prog 73 #[.slice A n c, .int .i64 ((j1 : Int)), .int .i64 (i : Int)] W fun e w' => e = .returned (.bool b2) ∧ Fr No wr w') := Lib.hid (fun W hW => by have := HLS.out W (j1) i hW (by have := HJM.out; have := HJ1.out; have := HMN.out; omega) (by have := HJM.out; have := HJ1.out; have := HMN.out; omega); rw [← HB2.out] at this; exact this)
          have HS2 : Hid (∀ W, Fr No wr W → Calls Try.prog 76 #[.slice A n c, .int .i64 (i : Int), .int .i64 ((j1 : Int))] W fun e w' => e = .returned (.tuple #[]) ∧ HpS B w' p A c (swl M i (j1)) ∧ Fr (AtO (Value.slice A n c).ownBlock) W w') := Lib.hid (fun W hW => HSW.out W i (j1) hW (by have := HJM.out; have := HJ1.out; have := HMN.out; omega) (by have := HJM.out; have := HJ1.out; have := HMN.out; omega))
          clear hb2 him hmn hj1m hj1
          cases b2
          · go_wp2_with (first
              | (go_at_call 73; with_reducible refine (HL1.out _ (Fr.refl No wr)).mono ?_; rintro _ w2 ⟨rfl, hf2⟩; have HF2 := Lib.hid hf2; have q3 := m_less (HCL.out _ hf2); have q4 := n_less (W := w2) (p := p); clear hf2)
              | (go_at_call 73; with_reducible refine (HL2.out _ HF2.out).mono ?_; rintro _ w3 ⟨rfl, hf3⟩; have HF3 := Lib.hid hf3; have q5 := m_swap (HCL.out _ hf3); have q6 := n_swap (W := w3) (p := p); clear hf3))
            refine bodyPost_ret (results_tmp rfl _ _ _) rfl ?_
            refine ⟨⟨_, rfl⟩, M, HPM.out, HL.out, HDN.out.done (fun k h0 h1 h2 => Int.le_trans (Int.not_lt.1 (of_decide_eq_false HB2.out.symm)) (HMIN.out k h0 h1 h2)), HFA.out, HP.out.no HF3.out, HF.out.trans' HF3.out (fun _ h => nomatch h)⟩
          · go_wp2_with (first
              | (go_at_call 73; with_reducible refine (HL1.out _ (Fr.refl No wr)).mono ?_; rintro _ w2 ⟨rfl, hf2⟩; have HF2 := Lib.hid hf2; have q3 := m_less (HCL.out _ hf2); have q4 := n_less (W := w2) (p := p); clear hf2)
              | (go_at_call 73; with_reducible refine (HL2.out _ HF2.out).mono ?_; rintro _ w3 ⟨rfl, hf3⟩; have HF3 := Lib.hid hf3; have q5 := m_swap (HCL.out _ hf3); have q6 := n_swap (W := w3) (p := p); clear hf3)
              | (go_at_call 76; with_reducible refine (HS2.out _ HF3.out).mono ?_; rintro _ w4 ⟨rfl, hp4, hf4⟩; have HP4 := Lib.hid hp4; have HF4 := Lib.hid hf4; clear hp4 hf4))
            have hj1 := HJ1.out
            have hmn := HMN.out
            have hjm := HJM.out
            obtain ⟨s1, s2⟩ := swl_dn HL.out HMN.out HDN.out (j := j1) (by omega) (by omega) (by omega) HMIN.out (of_decide_eq_true HB2.out.symm)
            go_roundw
            case measure => simp [intOf]; omega
            case rel => exact ⟨j1, swl M i (j1), by go_num, by rw [swl_length]; exact HL.out, HP4.out, s1, by omega, (swl_perm (by have := HL.out; omega) (by have := HL.out; omega)).trans HPM.out, fun k hk => (s2 k hk).trans (HFA.out k hk), (HF.out.trans' HF3.out (fun _ h => nomatch h)).trans HF4.out⟩
        · have HJM := HJ2
          clear h2
          obtain ⟨b2, hb2⟩ : ∃ b2, b2 = decide (at_ M (j1 + 1) < at_ M i) := ⟨_, rfl⟩
          have HB2 := Lib.hid hb2
          have HMIN : Hid (∀ k, 0 < k → k < m → (k - 1) / 2 = i → at_ M (j1 + 1) ≤ at_ M k) := Lib.hid (by
            intro k h0 h1 h2
            have e := of_decide_eq_true HB1.out.symm
            have hj1 := HJ1.out
            rcases (show k = j1 ∨ k = j1 + 1 by omega) with rfl | rfl
            · omega
            · exact Int.le_refl _)
          have HL2 : Hid (∀ W, Fr No wr W → Calls Try.prog 73 #[.slice A n c, .int .i64 ((j1 : Int) + 1), .int .i64 (i : Int)] W fun e w' => e = .returned (.bool b2) ∧ Fr No wr w') := Lib.hid (fun W hW => by have := HLS.out W (j1 + 1) i hW (by have := HJM.out; have := HJ1.out; have := HMN.out; omega) (by have := HJM.out; have := HJ1.out; have := HMN.out; omega); rw [← HB2.out] at this; exact this)
          have HS2 : Hid (∀ W, Fr No wr W → Calls Try.prog 76 #[.slice A n c, .int .i64 (i : Int), .int .i64 ((j1 : Int) + 1)] W fun e w' => e = .returned (.tuple #[]) ∧ HpS B w' p A c (swl M i (j1 + 1)) ∧ Fr (AtO (Value.slice A n c).ownBlock) W w') := Lib.hid (fun W hW => HSW.out W i (j1 + 1) hW (by have := HJM.out; have := HJ1.out; have := HMN.out; omega) (by have := HJM.out; have := HJ1.out; have := HMN.out; omega))
          clear hb2 him hmn hj1m hj1
          cases b2
          · go_wp2_with (first
              | (go_at_call 73; with_reducible refine (HL1.out _ (Fr.refl No wr)).mono ?_; rintro _ w2 ⟨rfl, hf2⟩; have HF2 := Lib.hid hf2; have q3 := m_less (HCL.out _ hf2); have q4 := n_less (W := w2) (p := p); clear hf2)
              | (go_at_call 73; with_reducible refine (HL2.out _ HF2.out).mono ?_; rintro _ w3 ⟨rfl, hf3⟩; have HF3 := Lib.hid hf3; have q5 := m_swap (HCL.out _ hf3); have q6 := n_swap (W := w3) (p := p); clear hf3))
            refine bodyPost_ret (results_tmp rfl _ _ _) rfl ?_
            refine ⟨⟨_, rfl⟩, M, HPM.out, HL.out, HDN.out.done (fun k h0 h1 h2 => Int.le_trans (Int.not_lt.1 (of_decide_eq_false HB2.out.symm)) (HMIN.out k h0 h1 h2)), HFA.out, HP.out.no HF3.out, HF.out.trans' HF3.out (fun _ h => nomatch h)⟩
          · go_wp2_with (first
              | (go_at_call 73; with_reducible refine (HL1.out _ (Fr.refl No wr)).mono ?_; rintro _ w2 ⟨rfl, hf2⟩; have HF2 := Lib.hid hf2; have q3 := m_less (HCL.out _ hf2); have q4 := n_less (W := w2) (p := p); clear hf2)
              | (go_at_call 73; with_reducible refine (HL2.out _ HF2.out).mono ?_; rintro _ w3 ⟨rfl, hf3⟩; have HF3 := Lib.hid hf3; have q5 := m_swap (HCL.out _ hf3); have q6 := n_swap (W := w3) (p := p); clear hf3)
              | (go_at_call 76; with_reducible refine (HS2.out _ HF3.out).mono ?_; rintro _ w4 ⟨rfl, hp4, hf4⟩; have HP4 := Lib.hid hp4; have HF4 := Lib.hid hf4; clear hp4 hf4))
            have hj1 := HJ1.out
            have hmn := HMN.out
            have hjm := HJM.out
            obtain ⟨s1, s2⟩ := swl_dn HL.out HMN.out HDN.out (j := j1 + 1) (by omega) (by omega) (by omega) HMIN.out (of_decide_eq_true HB2.out.symm)
            go_roundw
            case measure => simp [intOf]; omega
            case rel => exact ⟨j1 + 1, swl M i (j1 + 1), by go_num, by rw [swl_length]; exact HL.out, HP4.out, s1, by omega, (swl_perm (by have := HL.out; omega) (by have := HL.out; omega)).trans HPM.out, fun k hk => (s2 k hk).trans (HFA.out k hk), (HF.out.trans' HF3.out (fun _ h => nomatch h)).trans HF4.out⟩
      · have h2I : ¬ (j1 : Int) + 1 < (m : Int) := by omega
        have HJ2 := Lib.hid h2
        clear h2
        obtain ⟨b2, hb2⟩ : ∃ b2, b2 = decide (at_ M (j1) < at_ M i) := ⟨_, rfl⟩
        have HB2 := Lib.hid hb2
        have HMIN : Hid (∀ k, 0 < k → k < m → (k - 1) / 2 = i → at_ M (j1) ≤ at_ M k) := Lib.hid (by
          intro k h0 h1 h2
          have hj1 := HJ1.out
          have := HJ2.out
          obtain rfl : k = j1 := by omega
          exact Int.le_refl _)
        have HL2 : Hid (∀ W, Fr No wr W → Calls Try.prog 73 #[.slice A n c, .int .i64 ((j1 : Int)), .int .i64 (i : Int)] W fun e w' => e = .returned (.bool b2) ∧ Fr No wr w') := Lib.hid (fun W hW => by have := HLS.out W (j1) i hW (by have := HJM.out; have := HJ1.out; have := HMN.out; omega) (by have := HJM.out; have := HJ1.out; have := HMN.out; omega); rw [← HB2.out] at this; exact this)
        have HS2 : Hid (∀ W, Fr No wr W → Calls Try.prog 76 #[.slice A n c, .int .i64 (i : Int), .int .i64 ((j1 : Int))] W fun e w' => e = .returned (.tuple #[]) ∧ HpS B w' p A c (swl M i (j1)) ∧ Fr (AtO (Value.slice A n c).ownBlock) W w') := Lib.hid (fun W hW => HSW.out W i (j1) hW (by have := HJM.out; have := HJ1.out; have := HMN.out; omega) (by have := HJM.out; have := HJ1.out; have := HMN.out; omega))
        clear hb2 him hmn hj1m hj1
        cases b2
        · go_wp2_with (first
            | (go_at_call 73; with_reducible refine (HL2.out _ (Fr.refl No wr)).mono ?_; rintro _ w3 ⟨rfl, hf3⟩; have HF3 := Lib.hid hf3; have q5 := m_swap (HCL.out _ hf3); have q6 := n_swap (W := w3) (p := p); clear hf3))
          refine bodyPost_ret (results_tmp rfl _ _ _) rfl ?_
          refine ⟨⟨_, rfl⟩, M, HPM.out, HL.out, HDN.out.done (fun k h0 h1 h2 => Int.le_trans (Int.not_lt.1 (of_decide_eq_false HB2.out.symm)) (HMIN.out k h0 h1 h2)), HFA.out, HP.out.no HF3.out, HF.out.trans' HF3.out (fun _ h => nomatch h)⟩
        · go_wp2_with (first
            | (go_at_call 73; with_reducible refine (HL2.out _ (Fr.refl No wr)).mono ?_; rintro _ w3 ⟨rfl, hf3⟩; have HF3 := Lib.hid hf3; have q5 := m_swap (HCL.out _ hf3); have q6 := n_swap (W := w3) (p := p); clear hf3)
            | (go_at_call 76; with_reducible refine (HS2.out _ HF3.out).mono ?_; rintro _ w4 ⟨rfl, hp4, hf4⟩; have HP4 := Lib.hid hp4; have HF4 := Lib.hid hf4; clear hp4 hf4))
          have hj1 := HJ1.out
          have hmn := HMN.out
          have hjm := HJM.out
          obtain ⟨s1, s2⟩ := swl_dn HL.out HMN.out HDN.out (j := j1) (by omega) (by omega) (by omega) HMIN.out (of_decide_eq_true HB2.out.symm)
          go_roundw
          case measure => simp [intOf]; omega
          case rel => exact ⟨j1, swl M i (j1), by go_num, by rw [swl_length]; exact HL.out, HP4.out, s1, by omega, (swl_perm (by have := HL.out; omega) (by have := HL.out; omega)).trans HPM.out, fun k hk => (s2 k hk).trans (HFA.out k hk), (HF.out.trans' HF3.out (fun _ h => nomatch h)).trans HF4.out⟩
end Go.Proofs.Ytcjofakhefpfdaa
