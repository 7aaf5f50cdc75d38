/- VoucherBack's walk. -/
import Derived.Test.YtpaeohmoecdniabVouB
import Derived.Test.YtpaeohmoecdniabVouN2
import Derived.Test.YtpaeohmoecdniabVou8
namespace Go.Proofs.Ytpaeohmoecdniab
open Go.RowKit Go.My Go.Maps
set_option linter.unusedSimpArgs false
set_option linter.unusedVariables false
attribute [local go_sem ↓] Go.wp_at_zero Go.wp_at_succ

theorem ls_two {W : World} {bx : Nat} {F G : Nat → Prop} {A B : Option Addr} {c d : Nat} {L R : List Lg} (hb : Blk W bx 23 #[.slice A L.length c, .slice B R.length d]) (h1 : Rd W F 2 A L.length (lgs L)) (h2 : Rd W G 2 B R.length (lgs R)) :
    LsS W (some ⟨bx, 0, none⟩) [L, R] := by
  refine ⟨[.slice A L.length c, .slice B R.length d], ⟨rfl, fun _ => ⟨_, rfl, trivial, fun j u hu => ?_⟩⟩, fun i hi => ?_⟩
  · rw [add_zero, hb.cell]
    simpa using hu
  · match i, hi with
    | 0, _ => exact ⟨A, c, rfl, h1.more fun _ _ => trivial⟩
    | 1, _ => exact ⟨B, d, rfl, h2.more fun _ _ => trivial⟩
    | n + 2, hi => simp at hi; omega

set_option maxRecDepth 100000 in
set_option maxHeartbeats 0 in
theorem voucherBack_walk (A : Option Addr) (c : Nat) (cells : List Value) (T : List AcI) (B : Option Addr) (d : Nat) (cells2 : List Value) (L0 : List Lg) (w : World)
    (hr : Rd w (Lt w.heap.size) 4 A T.length cells) (hc : T.length ≤ c) (hcm : c ≤ maxLen) (hE : Each RdAc 4 cells T) (hr2 : Rd w (Lt w.heap.size) 2 B L0.length cells2) (hd : L0.length ≤ d) (hdm : d ≤ maxLen) (hE2 : Each RdLg 2 cells2 L0) :
    Calls Try.prog 6 #[.slice A T.length c, .slice B L0.length d] w (RetTrue w) := by
  obtain ⟨L, hLd, hL8, hLl, hrL, hEL, hokL⟩ := few_legs hr2 hd hE2
  have HRL := Lib.hid hrL
  have HEL := Lib.hid hEL
  have HOK := Lib.hid hokL
  have HAC : Hid (∀ W, Below w.heap.size w W → w.heap.size ≤ W.heap.size → Calls Try.prog 10 #[.slice A T.length c] W (MadeB W)) := fun W hW hs => accts_any A c cells T W ((hr.below hW fun _ h => h).more fun _ h => Nat.lt_of_lt_of_le h hs) hE hc hcm
  have HFW : Hid (∀ W, Calls Try.prog 11 #[.slice B L0.length d] W fun e w' => e = .returned (.slice B L.length d) ∧ W = w') := fun W => by
    have h := few_any B L0.length d W hd hdm
    rwa [← hLd] at h
  clear hr hE hr2 hE2 hrL hEL hokL hLd hd hdm hc hcm
  go_enter Try.func6, Try.ntmps6
  go_wp2_with fail
  refine (livesV _).mono ?_
  rintro e w1 ⟨rfl, hb1⟩
  have hs1 := hb1.size
  go_wp2_with fail
  refine (HAC.out _ hb1 hs1).mono ?_
  rintro e w2 ⟨p, m, q, S, rfl, hc2, hq2, hI2, hf2, hm2, _⟩
  have HB2 := Lib.hid (below_fr_no hb1 hf2 hs1)
  have HC2 := Lib.hid hc2
  have HI2 := Lib.hid hI2
  have hs2 := hf2.size
  have hmw : w.heap.size ≤ m := by omega
  have hml2 := hc2.2.lt
  clear hb1 hc2 hq2 hI2 hf2
  go_wp2_with fail
  refine (HFW.out _).mono ?_
  rintro e w3 ⟨rfl, rfl⟩
  have HA1 := Lib.hid (all_any p m S w2 HC2.out HI2.out.nm HI2.out.len)
  go_wp2_with fail
  refine HA1.out.mono ?_
  rintro e w4 ⟨v4, rfl, ho4, hf4', hn4⟩
  obtain ⟨A4, c4, rfl, _, _⟩ := ho4.form
  have hf4 := fr_at_none hf4'
  have HO4 := Lib.hid ho4.rd
  have HF4 := Lib.hid hf4
  have HN4 := Lib.hid (newer_none hn4)
  have hs4 := hf4.size
  have HMK : Hid (∀ c', Calls Try.prog 16 #[.pointer (some ⟨p, 0, none⟩), .slice B L.length c'] w4 (DeedsE p m (checkE S L) (makeS S L) w4)) := fun c' =>
    make_any p m S (Lt w.heap.size) B c' (lgs L) L w4 (HC2.out.no HF4.out) HI2.out (HRL.out.below (below_fr_no HB2.out HF4.out HB2.out.size) fun _ h => h) (fun k hk => by have hk' : k < w.heap.size := hk; exact ⟨by omega, by omega⟩) HEL.out (by omega)
  have HB4 := Lib.hid (below_fr_no HB2.out HF4.out HB2.out.size)
  clear ho4 hf4' hf4 hn4 HA1
  by_cases h0 : checkE S L = 0
  · have HBK := Lib.hid (make_back HI2.out HOK.out h0)
    have HNM : Hid (mirrE L = 0 ∧ mirrL L = negL L) := mirr_ok (check_none_min h0)
    have HNB : Hid (netE (L ++ negL L) = 0 ∧ netL (L ++ negL L) = []) := net_back L
    have HNL := Lib.hid (negL_length L)
    have HOKN : Hid (∀ g ∈ negL L, g.ok) := fun g hg => by
      unfold negL at hg
      obtain ⟨b, hb, rfl⟩ := List.mem_map.1 hg
      have h1 := HOK.out b hb
      have h2 := check_none_min h0 b hb
      unfold Lg.ok In64 at h1 ⊢
      exact ⟨h1.1, by simp only; omega⟩
    have HNN : Hid (mirrE (negL L) = 0 ∧ mirrL (negL L) = L) := by
      have h1 := mirr_ok (L := negL L) (fun g hg => by
        unfold negL at hg
        obtain ⟨b, hb, rfl⟩ := List.mem_map.1 hg
        have h3 := (HOK.out b hb).2
        unfold In64 at h3
        simp only
        omega)
      rw [negL_neg] at h1
      exact h1
    have HI3 : Hid (Inv (makeS S L)) := inv_make HI2.out L
    rw [h0] at HMK
    generalize makeS S L = U at *
    clear h0
    go_wp2_with fail
    refine (HMK.out _).mono ?_
    rintro e w6 ⟨rfl, hc6, hf6⟩
    have HC6 := Lib.hid hc6
    have HF6 := Lib.hid hf6
    have HB6 : Hid (Below w.heap.size w w6) := below_fr HB4.out hf6 (by omega) (fun k hk => by have : k = m := hk; omega)
    have hs6 := hf6.size
    have HR6 := Lib.hid (HRL.out.below HB6.out fun _ h => h)
    have HO6 : Hid (Rd w6 (fun k => (Value.slice A4 S.length c4).ownBlock = some k) 4 A4 S.length (acs S)) := HO4.out.fr (by omega) hf6 (fun k hk _ h => by have h1 := HN4.out k hk; have : k = m := h; omega)
    clear hc6 hf6 HMK
    have hm1 := mirror_any _ B d L w6 HR6.out HOK.out (by omega)
    rw [HNM.out.1, HNM.out.2] at hm1
    have HM1 := Lib.hid hm1
    clear hm1
    go_wp2_with fail
    refine HM1.out.mono ?_
    rintro e w7 ⟨v7, rfl, ho7, hf7, hn7⟩
    rw [HNL.out] at ho7
    obtain ⟨A7, c7, rfl, _, _⟩ := ho7.form
    have HO7 := Lib.hid ho7.rd
    have HF7 := Lib.hid hf7
    have HN7 := Lib.hid (newer_none hn7)
    have hs7 := hf7.size
    clear ho7 hf7 hn7 HM1
    have HNT : Hid (Calls Try.prog 21 #[.slice (some ⟨w7.heap.size, 0, none⟩) 2 2] (w7.alloc (.cells #[.slice B L.length d, .slice A7 L.length c7] 23)) (RetLs (w7.alloc (.cells #[.slice B L.length d, .slice A7 L.length c7] 23)) [] 0)) := by
      have hfl : flatL [L, negL L] = L ++ negL L := by simp [flatL]
      have hfa : Fr No w7 (w7.alloc (.cells #[.slice B L.length d, .slice A7 L.length c7] 23)) := (Fr.refl _ _).alloc _
      have h := net_any (some ⟨w7.heap.size, 0, none⟩) 2 [L, negL L] (w7.alloc (.cells #[.slice B L.length d, .slice A7 L.length c7] 23))
        (ls_two (by rw [HNL.out]; exact Blk.new w7 _ _) ((HR6.out.fr (by omega) HF7.out fun _ _ _ h => h).fr (by omega) hfa fun _ _ _ h => h) (by rw [HNL.out]; exact HO7.out.fr (by omega) hfa fun _ _ _ h => h))
        (by rw [hfl]; intro g hg; rcases List.mem_append.1 hg with h | h; exact HOK.out g h; exact HOKN.out g h) (by simp) (by rw [hfl, List.length_append, HNL.out]; omega)
      rw [hfl, HNB.out.1, HNB.out.2] at h
      exact h
    go_wp2_with fail
    refine HNT.out.mono ?_
    rintro e w8 ⟨v8, rfl, ho8, hf8, _⟩
    obtain ⟨A8, c8, rfl, _, _⟩ := ho8.form
    have HF8 : Hid (Fr No w7 w8) := ((Fr.refl No w7).alloc _).trans hf8
    have hs8 := HF8.out.size
    clear ho8 hf8 HNT
    have HR8 := Lib.hid (HO7.out.fr (by omega) HF8.out fun _ _ _ h => h)
    have hm2 := mirror_any _ A7 c7 (negL L) w8 (by rw [HNL.out]; exact HR8.out) HOKN.out (by rw [HNL.out]; omega)
    rw [HNN.out.1, HNN.out.2, HNL.out] at hm2
    have HM2 := Lib.hid hm2
    clear hm2
    go_wp2_with fail
    refine HM2.out.mono ?_
    rintro e w9 ⟨v9, rfl, ho9, hf9, hn9⟩
    obtain ⟨A9, c9, rfl, _, _⟩ := ho9.form
    have HO9 := Lib.hid ho9.rd
    have HN9 := Lib.hid (newer_none hn9)
    have HF9 := Lib.hid (HF7.out.trans (HF8.out.trans hf9))
    have hs9 := HF9.out.size
    have hs9' := hf9.size
    have HR9 := Lib.hid (HR8.out.fr (by omega) hf9 fun _ _ _ h => h)
    clear ho9 hf9 hn9 HM2
    have hm6 := HC6.out.2.lt
    have hm3 := make_any p m U (fun k => (Value.slice A7 L.length c7).ownBlock = some k ∧ k < w9.heap.size) A7 c7 (lgs (negL L)) (negL L) w9 (HC6.out.no HF9.out) HI3.out (by rw [HNL.out]; exact HR9.out.lt (by omega)) (fun k hk => ⟨hk.2, by have := HN7.out k hk.1; omega⟩) (lgs_each _ HOKN.out) (by rw [HNL.out]; omega)
    rw [HNL.out] at hm3
    have HM3 := Lib.hid hm3
    have HI4 : Hid (Inv (makeS U (negL L))) := inv_make HI3.out _
    have hbk := HBK.out
    generalize checkE U (negL L) = E2 at *
    generalize makeS U (negL L) = V at *
    clear hm3
    go_wp2_with fail
    refine HM3.out.mono ?_
    rintro e w10 ⟨rfl, hc10, hf10⟩
    have HC10 := Lib.hid hc10
    have HF10 := Lib.hid hf10
    have hs10 := hf10.size
    have HB10 : Hid (Below w.heap.size w w10) := below_fr (below_fr_no HB6.out HF9.out (by omega)) hf10 (by omega) (fun k hk => by have : k = m := hk; omega)
    have HR10 := Lib.hid (HRL.out.below HB10.out fun _ h => h)
    have HO10 : Hid (Rd w10 (fun k => (Value.slice A9 L.length c9).ownBlock = some k) 2 A9 L.length (lgs L)) := HO9.out.fr (by omega) hf10 (fun k hk _ h => by have h1 := HN9.out k hk; have : k = m := h; omega)
    have HP10 : Hid (Rd w10 (fun k => (Value.slice A4 S.length c4).ownBlock = some k) 4 A4 S.length (acs S)) := (HO6.out.fr (by omega) HF9.out fun _ _ _ h => h).fr (by omega) hf10 (fun k hk _ h => by have h1 := HN4.out k hk; have : k = m := h; omega)
    have hsl := sameL_any _ _ A9 B c9 d L L w10 HO10.out HR10.out HOK.out HOK.out (by omega)
    rw [decide_eq_true rfl] at hsl
    have HSL := Lib.hid hsl
    clear hc10 hf10 hsl
    rcases hbk with ⟨rfl, rfl⟩ | rfl
    · go_wp2_with fail
      refine HSL.out.mono ?_
      rintro e w11 ⟨rfl, j11, rfl⟩
      have HAL := Lib.hid (all_then HI4.out (w10.drewN j11) (HC10.out.no ((Fr.refl No w10).drewN j11)))
      go_wp2_with fail
      refine HAL.out.mono ?_
      rintro e w12 ⟨A12, c12, rfl, hr12, hf12⟩
      have HF12 := Lib.hid (((Fr.refl No w10).drewN j11).trans hf12)
      have HSM := Lib.hid (same_then HI4.out w12 A12 A4 c12 c4 _ _ hr12 (HP10.out.fr (by omega) HF12.out fun _ _ _ h => h))
      clear hr12 hf12 HAL
      go_wp2_with fail
      refine HSM.out.mono ?_
      rintro e w13 ⟨rfl, hf13⟩
      have HF13 := Lib.hid (HF12.out.trans hf13)
      clear hf13
      go_wp2
      go_ret
      exact ⟨rfl, below_fr_no HB10.out HF13.out (by omega)⟩
    · go_wp2_with fail
      refine HSL.out.mono ?_
      rintro e w11 ⟨rfl, j11, rfl⟩
      go_wp2
      go_ret
      exact ⟨rfl, below_drewN HB10.out _⟩
  · have hz : (checkE S L == 0) = false := beq_eq_false_iff_ne.2 h0
    have hz2 : (checkE S L != 0) = true := by rw [bne_iff_ne]; exact h0
    generalize checkE S L = E at *
    clear h0
    go_wp2_with fail
    refine (HMK.out _).mono ?_
    rintro e w6 ⟨rfl, hc6, hf6⟩
    have HB6 : Hid (Below w.heap.size w w6) := below_fr HB4.out hf6 (by omega) (fun k hk => by have : k = m := hk; omega)
    clear hc6 hf6
    go_wp2
    go_ret
    exact ⟨rfl, HB6.out⟩
end Go.Proofs.Ytpaeohmoecdniab
