/- Contracts of package voucher: Check, Make. -/
import Derived.Test.YtjbeaoabhhaiiaaGreatVou2
import Derived.Test.YtjbeaoabhhaiiaaGreatChartI0
namespace Go.Proofs.YtjbeaoabhhaiiaaGreat
open Go.RowKit Go.My Go.Maps
set_option linter.unusedSimpArgs false
set_option linter.unusedVariables false
attribute [local go_sem ↓] Go.wp_at_zero Go.wp_at_succ

theorem rightB_six {L : List Lg} (h : rightB L = true) : L.length ≤ 6 := by
  unfold rightB at h
  simp only [Bool.and_eq_true, decide_eq_true_eq] at h
  exact h.1.1.2

set_option maxRecDepth 100000 in
set_option maxHeartbeats 1000000 in
theorem check_any (p m : Nat) (S : List Ac) (F : Nat → Prop) (A : Option Addr) (c : Nat) (cells : List Value) (L : List Lg) (w : World) (h : ChS w p m S) (hI : Inv S) (hr : Rd w F 2 A L.length cells) (hF : ∀ k, F k → k < w.heap.size) (hE : Each RdLg 2 cells L) (hL : L.length ≤ 100) :
    Calls Tryz.prog 137 #[.pointer (some ⟨p, 0, none⟩), .slice A L.length c] w fun e w' => e = .returned (.int .i64 (checkE S L)) ∧ Fr No w w' := by
  have HR1 := Lib.hid (right_any F A c cells L w hr hE)
  have HBL : Hid (∀ W, Fr No w W → Calls Tryz.prog 158 #[.slice A L.length c] W fun e w' => e = .returned (.bool (decide (total (sums L) = 0))) ∧ Fr No W w') := fun W hW => balance_any F A c cells L W (hr.fr (by omega) hW fun _ _ _ h => h) hE hL
  have HCP : Hid (∀ W, Fr No w W → Calls Tryz.prog 61 #[.pointer (some ⟨p, 0, none⟩)] W (MadeS W S)) := fun W hW => copy_any p m S W (h.no hW)
  have HGV : Hid (∀ W p2 m2, Fr No w W → ChS W p2 m2 S → w.heap.size ≤ m2 → Calls Tryz.prog 138 #[.pointer (some ⟨p2, 0, none⟩), .slice A L.length c] W (DeedsE p2 m2 (legsE S L) (legsS S L) W)) := fun W p2 m2 hW hc hm => vgive_any p2 m2 S F A c cells L W hc hI (hr.fr (by omega) hW fun _ _ _ h => h) (fun k hk => by have := hF k hk; omega) hE hL
  clear h hI hr hE hF
  cases hrb : rightB L with
  | false =>
    have HN : Hid (checkE S L = 1) := by show _ = _; unfold checkE; rw [if_pos hrb]
    rw [hrb] at HR1
    clear hrb
    go_enter Tryz.func137, Tryz.ntmps137
    go_wp2_with fail
    refine HR1.out.mono ?_
    rintro e w1 ⟨rfl, hf1⟩
    have HF1 := Lib.hid hf1
    clear hf1
    go_wp2
    go_ret
    exact ⟨by rw [HN.out]; rfl, HF1.out⟩
  | true =>
    rw [hrb] at HR1
    by_cases hT : total (sums L) = 0
    · have HN : Hid (checkE S L = legsE S L) := by show _ = _; unfold checkE; rw [if_neg (by rw [hrb]; decide), if_pos hT]
      have hd : decide (total (sums L) = 0) = true := decide_eq_true hT
      rw [hd] at HBL
      clear hrb hd hT
      go_enter Tryz.func137, Tryz.ntmps137
      go_wp2_with fail
      refine HR1.out.mono ?_
      rintro e w1 ⟨rfl, hf1⟩
      have HF1 := Lib.hid hf1
      clear hf1
      go_wp2_with fail
      refine (HBL.out _ HF1.out).mono ?_
      rintro e w2 ⟨rfl, hf2⟩
      have HF2 := Lib.hid (HF1.out.trans hf2)
      clear hf2
      go_wp2_with fail
      refine (HCP.out _ HF2.out).mono ?_
      rintro e w3 ⟨p2, m2, rfl, hc3, hf3, hp3, hm3⟩
      have hF3 := HF2.out.trans hf3
      have HF3 := Lib.hid hF3
      have hmw : w.heap.size ≤ m2 := by have := HF2.out.size; omega
      have HG := Lib.hid (HGV.out w3 p2 m2 hF3 hc3 hmw)
      clear hc3 hf3 hF3
      go_wp2_with fail
      refine HG.out.mono ?_
      rintro e w4 ⟨rfl, hc4, hf4⟩
      have HF4 : Hid (Fr No w w4) := HF3.out.trans' hf4 (fun i hi hlt => by have : i = m2 := hi; omega)
      clear hc4 hf4
      go_wp2
      go_ret
      exact ⟨by rw [HN.out]; rfl, HF4.out⟩
    · have HN : Hid (checkE S L = 8) := by show _ = _; unfold checkE; rw [if_neg (by rw [hrb]; decide), if_neg hT]
      have hd : decide (total (sums L) = 0) = false := decide_eq_false hT
      rw [hd] at HBL
      clear hrb hd hT
      go_enter Tryz.func137, Tryz.ntmps137
      go_wp2_with fail
      refine HR1.out.mono ?_
      rintro e w1 ⟨rfl, hf1⟩
      have HF1 := Lib.hid hf1
      clear hf1
      go_wp2_with fail
      refine (HBL.out _ HF1.out).mono ?_
      rintro e w2 ⟨rfl, hf2⟩
      have HF2 := Lib.hid (HF1.out.trans hf2)
      clear hf2
      go_wp2
      go_ret
      exact ⟨by rw [HN.out]; rfl, HF2.out⟩

theorem check_legs {S : List Ac} {L : List Lg} (h : checkE S L = 0) : legsE S L = 0 := by
  unfold checkE at h
  split at h
  · cases h
  · split at h
    · exact h
    · cases h

set_option maxRecDepth 100000 in
set_option maxHeartbeats 1000000 in
theorem make_any (p m : Nat) (S : List Ac) (F : Nat → Prop) (A : Option Addr) (c : Nat) (cells : List Value) (L : List Lg) (w : World) (h : ChS w p m S) (hI : Inv S) (hr : Rd w F 2 A L.length cells) (hF : ∀ k, F k → k < w.heap.size ∧ k ≠ m) (hE : Each RdLg 2 cells L) (hL : L.length ≤ 100) :
    Calls Tryz.prog 105 #[.pointer (some ⟨p, 0, none⟩), .slice A L.length c] w (DeedsE p m (checkE S L) (makeS S L) w) := by
  have HC := Lib.hid (check_any p m S F A c cells L w h hI hr (fun k hk => (hF k hk).1) hE hL)
  have HGV : Hid (∀ W, Fr No w W → Calls Tryz.prog 138 #[.pointer (some ⟨p, 0, none⟩), .slice A L.length c] W (DeedsE p m (legsE S L) (legsS S L) W)) := fun W hW => vgive_any p m S F A c cells L W (h.no hW) hI (hr.fr (by omega) hW fun _ _ _ h => h) (fun k hk => (hF k hk).2) hE hL
  have HH := Lib.hid h
  have HRET : Hid (∀ n S' W, checkE S L = n → makeS S L = S' → ChS W p m S' → Fr (At1 m) w W → DeedsE p m (checkE S L) (makeS S L) w (.returned (.int .i64 n)) W) := fun n S' W h1 h2 h3 h4 => ⟨by rw [h1], by rw [h2]; exact h3, h4⟩
  clear h hI hr hE hF
  by_cases h0 : checkE S L = 0
  · have HN : Hid (checkE S L = 0 ∧ makeS S L = legsS S L) := ⟨h0, by unfold makeS; rw [if_pos h0]⟩
    rw [h0] at HC
    rw [check_legs h0] at HGV
    clear h0
    go_enter Tryz.func105, Tryz.ntmps105
    go_wp2_with fail
    refine HC.out.mono ?_
    rintro e w1 ⟨rfl, hf1⟩
    have HF1 := Lib.hid hf1
    clear hf1
    go_wp2_with fail
    refine (HGV.out _ HF1.out).mono ?_
    rintro e w2 ⟨rfl, hc2, hf2⟩
    have HE := Lib.hid (HRET.out 0 _ _ HN.out.1 HN.out.2 hc2 ((HF1.out.mono fun _ _ h => False.elim h).trans hf2))
    clear hc2 hf2
    go_wp2
    go_ret
    exact HE.out
  · have hne : (checkE S L != 0) = true := by rw [bne_iff_ne]; exact h0
    have HN : Hid (makeS S L = S) := by show _ = _; unfold makeS; rw [if_neg h0]
    obtain ⟨ev, hev⟩ : ∃ ev, checkE S L = ev := ⟨_, rfl⟩
    rw [hev] at HC hne
    have HEV := Lib.hid hev
    clear h0 hev
    go_enter Tryz.func105, Tryz.ntmps105
    go_wp2_with fail
    refine HC.out.mono ?_
    rintro e w1 ⟨rfl, hf1⟩
    have HE := Lib.hid (HRET.out ev _ _ HEV.out HN.out (HH.out.no hf1) (hf1.mono fun _ _ h => False.elim h))
    clear hf1
    go_wp2
    go_ret
    exact HE.out
end Go.Proofs.YtjbeaoabhhaiiaaGreat
