/- VoucherRow's walk. -/
import Derived.Test.YtpaeohmoecdniabVouLg
import Derived.Deep.RegionLaw
namespace Go.Proofs.Ytpaeohmoecdniab
open Go.RowKit Go.My Go.Maps
set_option linter.unusedSimpArgs false
set_option linter.unusedVariables false
attribute [local go_sem ↓] Go.wp_at_zero Go.wp_at_succ

set_option maxRecDepth 100000 in
theorem check_nil (v : Value) (w : World) : Calls Try.prog 12 #[.pointer none, v] w fun e w' => e = .returned (.int .i64 1) ∧ w = w' := by
  go_enter Try.func12, Try.ntmps12
  go_wp2
  go_ret
  exact ⟨rfl, rfl⟩

set_option maxRecDepth 100000 in
set_option maxHeartbeats 0 in
theorem voucherRow_walk (A : Option Addr) (c : Nat) (cells : List Value) (T : List AcI) (B : Option Addr) (d : Nat) (cells2 : List Value) (L0 : List Lg) (at_ : Int) (w : World)
    (hr : Rd w (Lt w.heap.size) 4 A T.length cells) (hc : T.length ≤ c) (hcm : c ≤ maxLen) (hE : Each RdAc 4 cells T) (hr2 : Rd w (Lt w.heap.size) 2 B L0.length cells2) (hd : L0.length ≤ d) (hdm : d ≤ maxLen) (hE2 : Each RdLg 2 cells2 L0) (hat : -9223372036854775808 ≤ at_ ∧ at_ ≤ 9223372036854775807) :
    Calls Try.prog 7 #[.slice A T.length c, .slice B L0.length d, .int .i64 at_] w (RetTrue w) := by
  obtain ⟨L, hLd, hL8, hLl, hrL, hEL, hokL⟩ : ∃ L : List Lg, L.length = min L0.length 8 ∧ L.length ≤ 8 ∧ L.length ≤ d ∧ Rd w (Lt w.heap.size) 2 B L.length (lgs L) ∧ Each RdLg 2 (lgs L) L ∧ ∀ g ∈ L, g.ok := by
    have ho : ∀ g ∈ L0.take 8, g.ok := fun g hg => each_ok hE2 g (List.mem_of_mem_take hg)
    refine ⟨L0.take 8, by rw [List.length_take]; omega, by rw [List.length_take]; omega, by rw [List.length_take]; omega, ?_, lgs_each _ ho, ho⟩
    have h1 := hr2.take (k := (L0.take 8).length) (by rw [List.length_take]; omega)
    have h2 : cells2.take ((L0.take 8).length * 2) = lgs (L0.take 8) := by
      rw [each_lgs L0 cells2 hE2]
      have e : lgs L0 = lgs (L0.take 8) ++ lgs (L0.drop 8) := by rw [← lgs_append, List.take_append_drop]
      rw [e]
      exact List.take_left' (lgs_length _)
    rwa [h2] at h1
  obtain ⟨k, hk, hkl⟩ := umod at_ (L.length + 1) (by omega) (by omega)
  have hk' : wrap64 ((IntKind.u64.wrap at_).tmod ((L.length : Int) + 1)) = (k : Int) := hk
  have hkN : k ≤ L.length := by omega
  have hkd : k ≤ d := by omega
  have hdm' := hdm
  unfold maxLen at hdm'
  obtain ⟨X, hX⟩ : ∃ X, X = if d = k then B else B.map (·.add (k * 2)) := ⟨_, rfl⟩
  have hspl : lgs L = lgs (L.take k) ++ lgs (L.drop k) := by rw [← lgs_append, List.take_append_drop]
  have htl : (lgs (L.take k)).length = k * 2 := by rw [lgs_length, List.length_take, Nat.min_eq_left hkN]
  have hrT : Rd w (Lt w.heap.size) 2 B k (lgs (L.take k)) := by
    have := hrL.take hkN
    rwa [hspl, List.take_left' htl] at this
  have hrD : Rd w (Lt w.heap.size) 2 X (L.length - k) (lgs (L.drop k)) := by
    have := hrL.cut (cap := d) hkN hLl
    rw [hspl, List.drop_left' htl] at this
    rwa [hX]
  have hperm : L.Perm (L.drop k ++ L.take k) := by
    have := List.perm_append_comm (l₁ := L.take k) (l₂ := L.drop k)
    rwa [List.take_append_drop] at this
  have HPM : Hid (∀ S, Inv S → (checkE S L = 0 ↔ checkE S (L.drop k ++ L.take k) = 0) ∧ makeS S L = makeS S (L.drop k ++ L.take k)) := fun S hS => make_perm hS hperm
  have HLR : Hid ((L.drop k ++ L.take k).length = L.length) := hperm.length_eq.symm
  have HLG : Hid (lgs (L.drop k) ++ lgs (L.take k) = lgs (L.drop k ++ L.take k)) := (lgs_append _ _).symm
  have HER : Hid (Each RdLg 2 (lgs (L.drop k ++ L.take k)) (L.drop k ++ L.take k)) := lgs_each _ fun g hg => hokL g (hperm.mem_iff.2 hg)
  have HRL := Lib.hid hrL
  have HRT := Lib.hid hrT
  have HRD := Lib.hid hrD
  have HEL := Lib.hid hEL
  have HAC : Hid (∀ W, Below w.heap.size w W → w.heap.size ≤ W.heap.size → Calls Try.prog 10 #[.slice A T.length c] W (MadeB W)) := fun W hW hs => accts_any A c cells T W ((hr.below hW fun _ h => h).more fun _ h => Nat.lt_of_lt_of_le h hs) hE hc hcm
  have HFW : Hid (∀ W, Calls Try.prog 11 #[.slice B L0.length d] W fun e w' => e = .returned (.slice B L.length d) ∧ W = w') := fun W => by
    have h := few_any B L0.length d W hd hdm
    rwa [← hLd] at h
  clear hr hE hr2 hE2 hrL hrT hrD hEL hokL hspl htl hperm hLd hd hdm hc hcm hk
  have HSD : Hid (∀ W c', Below w.heap.size w W → Src Try.prog W 2 23 (.slice X (L.length - k) c') (L.length - k) (lgs (L.drop k))) := fun W c' hW => Src.of_rd (HRD.out.below hW fun _ h => h) (lgs_ones _) Try.underlying23
  have HST : Hid (∀ W c', Below w.heap.size w W → Src Try.prog W 2 23 (.slice B k c') k (lgs (L.take k))) := fun W c' hW => Src.of_rd (HRT.out.below hW fun _ h => h) (lgs_ones _) Try.underlying23
  have HM : Hid (0 + (L.length - k) ≤ maxLen ∧ (0 + (L.length - k)) * 24 ≤ 140737488355328 ∧ L.length - k + k ≤ maxLen ∧ (L.length - k + k) * 24 ≤ 140737488355328) := by
    refine ⟨?_, ?_, ?_, ?_⟩ <;> (try simp only [maxLen]) <;> omega
  have HNK : Hid (L.length - k + k = L.length) := by show _ = _; omega
  go_enter Try.func7, Try.ntmps7
  go_wp2_with fail
  refine (livesV _).mono ?_
  rintro e w1 ⟨rfl, hb1⟩
  have hs1 := hb1.size
  go_wp2_with fail
  refine (HAC.out _ hb1 hs1).mono ?_
  rintro e w2 ⟨p, m, q, S, rfl, hc2, hq2, hI2, hf2, hm2, _⟩
  have HB2 := Lib.hid (below_fr_no hb1 hf2 hs1)
  have HC2 := Lib.hid hc2
  have HI2 := Lib.hid hI2
  have hs2 := hf2.size
  clear hb1 hc2 hq2 hI2 hf2
  go_wp2_with fail
  refine (HFW.out _).mono ?_
  rintro e w3 ⟨rfl, rfl⟩
  go_upto_region 8 with (fail)
  have hb2d : Below w.heap.size w w2.drew := below_drewN HB2.out 1
  have hmw : w.heap.size ≤ m := by omega
  by_cases hck : d = k
  all_goals
    first | rw [if_pos hck] at hX | rw [if_neg hck] at hX
    have hX' := hX.symm
    clear hX
    subst hX'
    try rw [hk']
    go_region_law (first
      | (refine step_app _ rfl (.const (.slice none 0 0)) (.tmp 35) 23 23 rfl elL (Own.nil _ _ _) rfl (HSD.out _ _ hb2d) rfl HM.out.1 HM.out.2.1 ?_; intro v5 w5 ho5 hf5 hn5; rw [Nat.zero_add, List.nil_append] at ho5
         have hq5 : Fr No w2 w5 := Fr.trans (Fr.refl No w2).drew (fr_at_none hf5)
         have hb5 : Below w.heap.size w w5 := below_fr_no HB2.out hq5 HB2.out.size
         have hn5' : Newer w2.heap.size none v5.ownBlock := Newer.of hn5)
      | (refine step_app _ rfl (.tmp 36) (.tmp 39) 23 23 rfl elL ho5 rfl (HST.out _ _ hb5) rfl HM.out.2.2.1 HM.out.2.2.2 ?_; intro v6 w6 ho6 hf6 hn6; rw [HNK.out, HLG.out] at ho6; obtain ⟨A6, c6, rfl, hl6, hm6⟩ := ho6.form
         have hq6 : Fr No w2 w6 := fr_no hq5 hn5' hf6
         have hw6 : Newer w2.heap.size none (Value.slice A6 L.length c6).ownBlock := Newer.trans hn5' (Newer.of hn6) hq5.size))
    have HC6 := Lib.hid (HC2.out.no hq6)
    have HB6 := Lib.hid (below_fr_no HB2.out hq6 HB2.out.size)
    have HW6 := Lib.hid (newer_none hw6)
    have HO6 := Lib.hid (ho6.rd.lt (by omega))
    have hs6 := hq6.size
    have hml2 := HC2.out.2.lt
    have hpl2 := HC2.out.1.lt
    have HCP := Lib.hid (copy_any p m S w6 HC6.out)
    clear ho5 ho6 hf5 hf6 hn5 hn6 hq5 hq6 hb5 hn5' hw6 hb2d
    go_wp2_with fail
    refine HCP.out.mono ?_
    rintro e w7 ⟨p2, m2, rfl, hc7, hf7, hp7, hm7⟩
    have HC7 := Lib.hid hc7
    have HF7 := Lib.hid hf7
    have hs7 := hf7.size
    have HB7 : Hid (Below w.heap.size w w7) := below_fr_no HB6.out hf7 (Nat.le_trans HB2.out.size hs6)
    have HM1 : Hid (∀ c', Calls Try.prog 16 #[.pointer (some ⟨p, 0, none⟩), .slice B L.length c'] w7 (DeedsE p m (checkE S L) (makeS S L) w7)) := fun c' =>
      make_any p m S (Lt w.heap.size) B c' (lgs L) L w7 (HC6.out.no hf7) HI2.out (HRL.out.below HB7.out fun _ h => h) (fun k hk => by have hk' : k < w.heap.size := hk; exact ⟨by omega, by omega⟩) HEL.out (by omega)
    have HM2 : Hid (∀ W, ChS W p2 m2 S → Fr (At1 m) w7 W → Calls Try.prog 16 #[.pointer (some ⟨p2, 0, none⟩), .slice A6 L.length c6] W (DeedsE p2 m2 (checkE S (L.drop k ++ L.take k)) (makeS S (L.drop k ++ L.take k)) W)) := fun W hW hf => by
      have h := make_any p2 m2 S _ A6 c6 (lgs (L.drop k ++ L.take k)) (L.drop k ++ L.take k) W hW HI2.out (by rw [HLR.out]; exact (HO6.out.fr (by omega) HF7.out fun _ _ _ h => h).fr (by omega) hf fun k hk _ h => by have h1 := HW6.out k hk.1; have : k = m := h; omega) (fun k hk => by have h1 := hk.2; have h2 := hf.size; exact ⟨by omega, by omega⟩) HER.out (by rw [HLR.out]; omega)
      rw [HLR.out] at h
      exact h
    obtain ⟨hiff, hmk⟩ := HPM.out S HI2.out
    obtain ⟨E1, hE1⟩ : ∃ E, checkE S L = E := ⟨_, rfl⟩
    obtain ⟨E2, hE2'⟩ : ∃ E, checkE S (L.drop k ++ L.take k) = E := ⟨_, rfl⟩
    obtain ⟨S1, hS1⟩ : ∃ E, makeS S L = E := ⟨_, rfl⟩
    have HI1 : Hid (Inv S1) := by show Inv S1; rw [← hS1]; exact inv_make HI2.out L
    rw [← hmk, hE2', hS1] at HM2
    rw [hE1, hS1] at HM1
    rw [hE1, hE2'] at hiff
    have hmm : m ≠ m2 := by omega
    have hpm : p ≠ m2 := by omega
    have hp2 : p2 ≠ m := by omega
    clear hc7 hf7 hE1 hE2' hS1 hmk HCP
    go_wp2_with fail
    refine (HM1.out _).mono ?_
    rintro e w8 ⟨rfl, hc8, hf8⟩
    have HC8 := Lib.hid hc8
    have HF8 := Lib.hid hf8
    clear hc8 hf8
    go_wp2_with fail
    refine (HM2.out _ (HC7.out.fr HF8.out hp2 (fun h => hmm h.symm)) HF8.out).mono ?_
    rintro e w9 ⟨rfl, hc9, hf9⟩
    have HC9 := Lib.hid hc9
    have HP9 := Lib.hid (HC8.out.fr hf9 hpm hmm)
    have HB9 : Hid (Below w.heap.size w w9) := below_fr HB7.out ((HF8.out.mono (T := fun k => k = m ∨ k = m2) fun _ _ h => Or.inl h).trans (hf9.mono fun _ _ h => Or.inr h)) (by omega) (fun k hk => by rcases hk with rfl | rfl <;> omega)
    have HA1 := Lib.hid (all_any p m S1 w9 HP9.out HI1.out.nm HI1.out.len)
    have hs9 : w.heap.size ≤ w9.heap.size := by have h1 := HF8.out.size; have h2 := hf9.size; omega
    clear hc9 hf9
    have hcase : (E1 = 0 ∧ E2 = 0) ∨ (E1 ≠ 0 ∧ E2 ≠ 0) := by
      rcases Decidable.em (E1 = 0) with h | h
      · exact .inl ⟨h, hiff.1 h⟩
      · exact .inr ⟨h, fun h2 => h (hiff.2 h2)⟩
    clear hiff
    rcases hcase with ⟨rfl, rfl⟩ | ⟨g1, g2⟩
    focus have hz1 : True := trivial
    rotate_left
    focus
      have hz1 : (E1 == 0) = false := beq_eq_false_iff_ne.2 g1
      have hz2 : (E2 == 0) = false := beq_eq_false_iff_ne.2 g2
      clear g1 g2
    all_goals
      go_wp2_with fail
      refine HA1.out.mono ?_
      rintro e w10 ⟨v10, rfl, ho10, hf10', _⟩
      obtain ⟨A10, c10, rfl, _, _⟩ := ho10.form
      have hf10 := fr_at_none hf10'
      have HA2 := Lib.hid (all_any p2 m2 S1 w10 (HC9.out.no hf10) HI1.out.nm HI1.out.len)
      have HO10 := Lib.hid ho10.rd
      have HF10 := Lib.hid hf10
      clear ho10 hf10' hf10
      go_wp2_with fail
      refine HA2.out.mono ?_
      rintro e w11 ⟨v11, rfl, ho11, hf11', _⟩
      obtain ⟨A11, c11, rfl, _, _⟩ := ho11.form
      have hf11 := fr_at_none hf11'
      have hsm := sameA_any _ _ A10 A11 c10 c11 S1 S1 w11 (HO10.out.fr (by omega) hf11 fun _ _ _ h => h) ho11.rd (by have := HI1.out.len; omega)
      rw [decide_eq_true rfl] at hsm
      have HSM := Lib.hid hsm
      have HF11 := Lib.hid (HF10.out.trans hf11)
      clear hsm ho11 hf11' hf11
      go_wp2_with fail
      refine HSM.out.mono ?_
      rintro e w12 ⟨rfl, j12, rfl⟩
      go_wp2_with fail
      refine (check_nil _ _).mono ?_
      rintro e w13 ⟨rfl, rfl⟩
      go_wp2
      go_ret
      exact ⟨rfl, below_fr_no HB9.out (HF11.out.drewN _) hs9⟩
end Go.Proofs.Ytpaeohmoecdniab
