/- The heap of names: one that goes up. -/
import Derived.Test.YtcjofakhefpfdaaKnH1
namespace Go.Proofs.Ytcjofakhefpfdaa
open Go.RowKit Go.My Go.My.Hp Go.Maps
set_option linter.unusedSimpArgs false
set_option linter.unusedVariables false
attribute [local go_sem ↓] Go.wp_at_zero Go.wp_at_succ

def UpR (B : Nat → Prop) (w : World) (p : Nat) (A : Option Addr) (c n : Nat) (L : List Int) (iv : Value) (wr : World) : Prop :=
  ∃ (j : Nat) (M : List Int), iv = .int .i64 (j : Int) ∧ M.length = n ∧ HpS B wr p A c M ∧ Up (at_ M) n j ∧ j < n ∧ M.Perm L ∧ Fr (AtO (Value.slice A n c).ownBlock) w wr

theorem swl_up {M : List Int} {n j : Nat} (hl : M.length = n) (h : Up (at_ M) n j) (hj : 0 < j) (hjn : j < n) (hlt : at_ M j < at_ M ((j - 1) / 2)) : Up (at_ (swl M ((j - 1) / 2) j)) n ((j - 1) / 2) := by
  have e : at_ (swl M ((j - 1) / 2) j) = sw (at_ M) ((j - 1) / 2) j := funext fun k => at_swl (by omega) (by omega) k
  rw [e]
  exact h.step hj hjn hlt

set_option maxRecDepth 100000 in
set_option maxHeartbeats 2000000 in
theorem hup_any {B : Nat → Prop} {w : World} {p : Nat} {A : Option Addr} {c : Nat} {L : List Int} (h : HpS B w p A c L) (j : Nat) (hj : j < L.length) (hu : Up (at_ L) L.length j) (hn : L.length ≤ 1000000) :
    Calls Try.prog 28 #[.iface 39 (.pointer (some ⟨p, 0, none⟩)), .int .i64 (j : Int)] w fun e w' => e = .returned (.tuple #[]) ∧ ∃ M : List Int, M.Perm L ∧ M.length = L.length ∧ Hp (at_ M) L.length ∧ HpS B w' p A c M ∧ Fr (AtO (Value.slice A L.length c).ownBlock) w w' := by
  obtain ⟨n, hnl⟩ : ∃ n, n = L.length := ⟨_, rfl⟩
  rw [← hnl]
  rw [← hnl] at hu hn hj
  have HH := Lib.hid h
  have HU := Lib.hid hu
  have HNL := Lib.hid hnl
  have HJ := Lib.hid hj
  clear h hu hnl hj
  go_enter Try.func28, Try.ntmps28
  go_wp2
  go_loopw [1] (fun iv wr => UpR B w p A c n L iv wr) (fun iv _ => (intOf iv).toNat)
  case atStart => exact ⟨j, L, rfl, HNL.out.symm, HH.out, HU.out, HJ.out, List.Perm.refl _, Fr.refl _ _⟩
  case round =>
    obtain ⟨j2, M, rfl, hl, hp, hup, hjn, hperm, hf⟩ := hrel
    have HP := Lib.hid hp
    have HUP := Lib.hid hup
    have HPM := Lib.hid hperm
    have HF := Lib.hid hf
    have HL := Lib.hid hl
    have c1 := hp.cell
    rw [hl] at c1
    have q1 := m_less c1
    have q2 := n_less (W := wr) (p := p)
    clear hp hup hperm hf hl
    by_cases h0 : j2 = 0
    · subst h0
      go_wp2
      refine bodyPost_end (v := .tuple #[]) ?_ rfl ?_
      · simp [results, Try.results28, go_sem]
      exact ⟨rfl, M, HPM.out, HL.out, HUP.out.done (fun h => absurd h (Nat.lt_irrefl 0)), HP.out, HF.out⟩
    · obtain ⟨k, rfl⟩ : ∃ k, j2 = k + 1 := ⟨j2 - 1, by omega⟩
      have hi : k / 2 < n := by omega
      obtain ⟨i, hik⟩ : ∃ i, i = k / 2 := ⟨_, rfl⟩
      have hi' : i < n := by omega
      have g1 : wrap64 (k : Int) = (k : Int) := by unfold wrap64; omega
      have g2 : (k : Int).tdiv 2 = (i : Int) := by rw [hik]; rfl
      have g3 : wrap64 (i : Int) = (i : Int) := by unfold wrap64; omega
      have g4 : ((i : Int) == (k : Int) + 1) = false := by rw [beq_eq_false_iff_ne]; omega
      obtain ⟨b, hb⟩ : ∃ b, b = decide (at_ M (k + 1) < at_ M i) := ⟨_, rfl⟩
      have HLE : Hid (Calls Try.prog 73 #[.slice A n c, .int .i64 ((k : Int) + 1), .int .i64 (i : Int)] wr fun e w' => e = .returned (.bool b) ∧ Fr No wr w') := Lib.hid (by
        have := hless_any HP.out (k + 1) i (by rw [HL.out]; omega) (by rw [HL.out]; omega)
        rw [HL.out, ← hb] at this
        exact this)
      have HSW : Hid (∀ W, Fr No wr W → Calls Try.prog 76 #[.slice A n c, .int .i64 (i : Int), .int .i64 ((k : Int) + 1)] W fun e w' => e = .returned (.tuple #[]) ∧ HpS B w' p A c (swl M i (k + 1)) ∧ Fr (AtO (Value.slice A n c).ownBlock) W w') := Lib.hid (fun W hW => by
        have := hswap_any (HP.out.no hW) i (k + 1) (by rw [HL.out]; omega) (by rw [HL.out]; omega)
        rw [HL.out] at this
        exact this)
      have HIK := Lib.hid hik
      have HB := Lib.hid hb
      clear hik hb
      cases b
      · go_wp2_with (go_at_call 73; refine HLE.out.mono ?_; rintro _ w2 ⟨rfl, hf2⟩; have HF2 := Lib.hid hf2; clear hf2)
        refine bodyPost_end (v := .tuple #[]) ?_ rfl ?_
        · simp [results, Try.results28, go_sem]
        refine ⟨rfl, M, HPM.out, HL.out, HUP.out.done (fun _ => ?_), HP.out.no HF2.out, HF.out.trans' HF2.out (fun _ h => nomatch h)⟩
        have h1 := HB.out
        rw [HIK.out] at h1
        have h2 := of_decide_eq_false h1.symm
        show at_ M ((k + 1 - 1) / 2) ≤ at_ M (k + 1)
        rw [Nat.add_sub_cancel]
        omega
      · go_wp2_with (first
          | (go_at_call 73; refine HLE.out.mono ?_; rintro _ w2 ⟨rfl, hf2⟩; have HF2 := Lib.hid hf2; have q3 := m_swap ((HP.out.no hf2).cell.trans (by rw [HL.out])); have q4 := n_swap (W := w2) (p := p); clear hf2)
          | (go_at_call 76; refine (HSW.out _ HF2.out).mono ?_; rintro _ w3 ⟨rfl, hp3, hf3⟩; have HP3 := Lib.hid hp3; have HF3 := Lib.hid hf3; clear hp3 hf3))
        have hl2 : (swl M i (k + 1)).length = n := by rw [swl_length]; exact HL.out
        go_roundw
        case measure => simp [intOf]; have := HIK.out; omega
        case rel =>
          refine ⟨i, swl M i (k + 1), by go_num, hl2, HP3.out, ?_, hi', (swl_perm (by have := HL.out; omega) (by have := HL.out; omega)).trans HPM.out, ?_⟩
          · have h1 := swl_up HL.out HUP.out (Nat.succ_pos k) hjn
            rw [Nat.add_sub_cancel, ← HIK.out] at h1
            exact h1 (of_decide_eq_true HB.out.symm)
          · exact (HF.out.trans' HF2.out (fun _ h => nomatch h)).trans HF3.out
end Go.Proofs.Ytcjofakhefpfdaa
