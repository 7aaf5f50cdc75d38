/- VoucherMakes' walk. -/
import Derived.Test.YtpaeohmoecdniabVouR3
import Derived.Deep.RegionWith
namespace Go.Proofs.Ytpaeohmoecdniab
open Go.RowKit Go.My Go.Maps
set_option linter.unusedSimpArgs false
set_option linter.unusedVariables false
attribute [local go_sem ↓] Go.wp_at_zero Go.wp_at_succ

theorem all_then {p m : Nat} {U : List Ac} (hI : Inv U) (W : World) (h : ChS W p m U) :
    Calls Try.prog 15 #[.pointer (some ⟨p, 0, none⟩)] W fun e w' => ∃ A c, e = .returned (.slice A U.length c) ∧ Rd w' (fun _ => True) 4 A U.length (acs U) ∧ Fr No W w' := by
  refine (all_any p m U W h hI.nm hI.len).mono ?_
  rintro e w' ⟨v, rfl, ho, hf, _⟩
  obtain ⟨A, c, rfl, _, _⟩ := ho.form
  exact ⟨A, c, rfl, ho.rd.more fun _ _ => trivial, fr_at_none hf⟩
theorem same_then {U : List Ac} (hI : Inv U) (W : World) (A B : Option Addr) (c d : Nat) (F G : Nat → Prop) (h1 : Rd W F 4 A U.length (acs U)) (h2 : Rd W G 4 B U.length (acs U)) :
    Calls Try.prog 14 #[.slice A U.length c, .slice B U.length d] W fun e w' => e = .returned (.bool true) ∧ Fr No W w' := by
  have h := sameA_any F G A B c d U U W h1 h2 (by have := hI.len; omega)
  rw [decide_eq_true rfl] at h
  exact h.mono fun e w' ⟨h1, j, h2⟩ => ⟨h1, by rw [h2]; exact (Fr.refl _ _).drewN j⟩

set_option maxRecDepth 100000 in
set_option maxHeartbeats 0 in
theorem voucherMakes_walk (A : Option Addr) (c : Nat) (cells : List Value) (T : List AcI) (B : Option Addr) (d : Nat) (cells2 : List Value) (L0 : List Lg) (w : World)
    (hr : Rd w (Lt w.heap.size) 4 A T.length cells) (hc : T.length ≤ c) (hcm : c ≤ maxLen) (hE : Each RdAc 4 cells T) (hr2 : Rd w (Lt w.heap.size) 2 B L0.length cells2) (hd : L0.length ≤ d) (hdm : d ≤ maxLen) (hE2 : Each RdLg 2 cells2 L0) :
    Calls Try.prog 3 #[.slice A T.length c, .slice B L0.length d] w (RetTrue w) := by
  obtain ⟨L, hLd, hL8, hLl, hrL, hEL, hokL⟩ := few_legs hr2 hd hE2
  have HRL := Lib.hid hrL
  have HEL := Lib.hid hEL
  have HAC : Hid (∀ W, Below w.heap.size w W → w.heap.size ≤ W.heap.size → Calls Try.prog 10 #[.slice A T.length c] W (MadeB W)) := fun W hW hs => accts_any A c cells T W ((hr.below hW fun _ h => h).more fun _ h => Nat.lt_of_lt_of_le h hs) hE hc hcm
  have HFW : Hid (∀ W, Calls Try.prog 11 #[.slice B L0.length d] W fun e w' => e = .returned (.slice B L.length d) ∧ W = w') := fun W => by
    have h := few_any B L0.length d W hd hdm
    rwa [← hLd] at h
  clear hr hE hr2 hE2 hrL hEL hokL hLd hd hdm hc hcm
  go_enter Try.func3, Try.ntmps3
  go_wp2_with fail
  refine (livesV _).mono ?_
  rintro e w1 ⟨rfl, hb1⟩
  have hs1 := hb1.size
  go_wp2_with fail
  refine (HAC.out _ hb1 hs1).mono ?_
  rintro e w2 ⟨p, m, q, S, rfl, hc2, hq2, hI2, hf2, hm2, hqn2⟩
  have HB2 := Lib.hid (below_fr_no hb1 hf2 hs1)
  have HC2 := Lib.hid hc2
  have HQ2 := Lib.hid hq2
  have HI2 := Lib.hid hI2
  have hs2 := hf2.size
  have hmw : w.heap.size ≤ m := by omega
  have hqw : w.heap.size ≤ q := by omega
  have HRW : Hid (∀ W, Fr No w2 W → Rd W (Lt w.heap.size) 2 B L.length (lgs L)) := fun W hW => HRL.out.below (below_fr_no HB2.out hW HB2.out.size) fun _ h => h
  clear hb1 hc2 hq2 hI2 hf2
  go_wp2_with fail
  refine (HFW.out _).mono ?_
  rintro e w3 ⟨rfl, rfl⟩
  have HCK : Hid (∀ c', Calls Try.prog 12 #[.pointer (some ⟨p, 0, none⟩), .slice B L.length c'] w2 fun e w' => e = .returned (.int .i64 (checkE S L)) ∧ Fr No w2 w') := fun c' =>
    check_any p m S (Lt w.heap.size) B c' (lgs L) L w2 HC2.out HI2.out (HRW.out _ (Fr.refl _ _)) (fun k hk => by have hk' : k < w.heap.size := hk; omega) HEL.out (by omega)
  have HCR : Hid (∀ c' W, Fr No w2 W → Calls Try.prog 13 #[.pointer (some ⟨q, 0, none⟩), .slice B L.length c'] W fun e w' => e = .returned (.int .i64 (checkE S L)) ∧ Fr No W w') := fun c' W hW =>
    refcheck_any q S (Lt w.heap.size) B c' (lgs L) L W (HQ2.out.no hW) HI2.out (HRW.out _ hW) HEL.out (by omega)
  have HM1 : Hid (∀ c' W, Fr No w2 W → Calls Try.prog 16 #[.pointer (some ⟨p, 0, none⟩), .slice B L.length c'] W (DeedsE p m (checkE S L) (makeS S L) W)) := fun c' W hW =>
    make_any p m S (Lt w.heap.size) B c' (lgs L) L W (HC2.out.no hW) HI2.out (HRW.out _ hW) (fun k hk => by have hk' : k < w.heap.size := hk; have := hW.size; exact ⟨by omega, by omega⟩) HEL.out (by omega)
  have HM2 : Hid (∀ c' W, RfS W q S → Fr (At1 m) w2 W → Calls Try.prog 17 #[.pointer (some ⟨q, 0, none⟩), .slice B L.length c'] W (DeedsR q (checkE S L) (makeS S L) W)) := fun c' W hR hW =>
    refmake_any q S (Lt w.heap.size) B c' (lgs L) L W hR HI2.out (HRL.out.below (below_fr HB2.out hW HB2.out.size (fun k hk => by have hk' : k = m := hk; omega)) fun _ h => h) (fun k hk => by have hk' : k < w.heap.size := hk; have := hW.size; exact ⟨by omega, by omega⟩) HEL.out (by omega)
  have HI3 : Hid (Inv (makeS S L)) := inv_make HI2.out L
  generalize checkE S L = E at *
  generalize makeS S L = U at *
  go_wp2_with fail
  refine (HCK.out _).mono ?_
  rintro e w4 ⟨rfl, hf4⟩
  have HF4 := Lib.hid hf4
  clear hf4
  go_wp2_with fail
  refine (HCR.out _ _ HF4.out).mono ?_
  rintro e w5 ⟨rfl, hf5⟩
  have HF5 := Lib.hid (HF4.out.trans hf5)
  clear hf5
  go_upto_region 8 with (fail)
  obtain ⟨Ar, cr, hbr, hr1, hr2, hor⟩ := HQ2.out.no HF5.out
  have hqc := hbr.cell 0
  simp only [List.getElem?_toArray, List.getElem?_cons_zero] at hqc
  have hqd : w5.drew.cell? ⟨q, 0, none⟩ = some (.slice Ar S.length cr) := hqc
  have HOR := Lib.hid hor.rd
  clear hbr hor
  go_cut [38] (fun a38 wx => a38 = .bool false ∧ Fr No w5 wx)
  case first =>
    go_wp2
    go_region_with (first
      | (go_at_call 15; (with_reducible refine (all_then HI2.out _ (HC2.out.no (Fr.drew HF5.out))).mono ?_); rintro e w6 ⟨A6, c6, rfl, hr6, hf6⟩; have hqc6 := hf6.cell_some hqd (fun h => h))
      | (go_at_call 14; (with_reducible refine (same_then HI2.out _ _ _ _ _ _ _ hr6 (HOR.out.fr (by omega) ((Fr.drew (Fr.refl No w5)).trans hf6) (fun _ _ _ h => h))).mono ?_); rintro e w7 ⟨rfl, hf7⟩; have hf57 : Fr No w5 w7 := ((Fr.drew (Fr.refl No w5)).trans hf6).trans hf7))
    all_goals
      go_wp2
      go_meet
      exact ⟨rfl, by assumption⟩
  case rest =>
    obtain ⟨rfl, hf8⟩ := hcut
    have HF8 := Lib.hid (HF5.out.trans hf8)
    clear hf8 hqc hqd HCK HCR
    go_upto_region 10 with (fail)
    have hfd := Fr.drew HF8.out
    go_region_with (first
      | (go_at_call 16; (with_reducible refine (HM1.out _ _ (Fr.drew HF8.out)).mono ?_); rintro e w9 ⟨rfl, hc9, hf9⟩; have hr9 := RfS.map (HQ2.out.no (Fr.drew HF8.out)) (HC2.out.no (Fr.drew HF8.out)) hf9; have hf29 := Fr.trans (S := At1 m) ((Fr.drew HF8.out).mono fun _ _ h => False.elim h) hf9)
      | (go_at_call 17; (with_reducible refine (HM2.out _ _ hr9 hf29).mono ?_); rintro e w10 ⟨rfl, hr10, hf10⟩; have hc10 := ChS.ref hc9 hr9 hf10; obtain ⟨Ax, cx, hbx, hx1, hx2, hox⟩ := hr10; have hxc := hbx.cell 0; simp only [List.getElem?_toArray, List.getElem?_cons_zero] at hxc; have HOX := Lib.hid hox.rd; have hf2x : Fr (fun k => k = m ∨ k = q) w2 w10 := Fr.trans (hf29.mono fun _ _ h => Or.inl h) (hf10.mono fun _ _ h => Or.inr h); clear hbx hox)
      | (go_at_call 15; (with_reducible refine (all_then HI3.out _ hc10).mono ?_); rintro e w11 ⟨A11, c11, rfl, hr11, hf11⟩; have hxc11 := hf11.cell_some hxc (fun h => h))
      | (go_at_call 14; (with_reducible refine (same_then HI3.out _ _ _ _ _ _ _ hr11 (HOX.out.fr (by omega) hf11 (fun _ _ _ h => h))).mono ?_); rintro e w12 ⟨rfl, hf12⟩; have hfx12 := Fr.trans hf2x ((hf11.trans hf12).mono fun _ _ h => False.elim h)))
    all_goals
      go_wp2
      go_ret
      exact ⟨rfl, below_fr HB2.out hfx12 HB2.out.size (fun k hk => by rcases hk with rfl | rfl <;> omega)⟩
end Go.Proofs.Ytpaeohmoecdniab
