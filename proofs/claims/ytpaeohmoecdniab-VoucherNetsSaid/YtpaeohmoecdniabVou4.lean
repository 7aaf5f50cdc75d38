/- What the laws on vouchers share: accounts that come in. -/
import Derived.Test.YtpaeohmoecdniabVou3
import Derived.Test.YtpaeohmoecdniabChartJ3
import Derived.Test.YtpaeohmoecdniabChartJ5
import Derived.Deep.RegionHeld3
import Derived.Deep.DeepCutAuto
namespace Go.Proofs.Ytpaeohmoecdniab
open Go.RowKit Go.My Go.Maps
set_option linter.unusedSimpArgs false
set_option linter.unusedVariables false
attribute [local go_sem ↓] Go.wp_at_zero Go.wp_at_succ

theorem RfS.map {w w' : World} {p m q : Nat} {S S2 : List Ac} (h : RfS w q S) (hc : ChS w p m S2) (hf : Fr (At1 m) w w') : RfS w' q S :=
  h.fr hf (fun hq => by
    obtain ⟨A, c, hb, _⟩ := h
    have hq' : q = m := hq
    exact hc.2.ne_ hb hq'.symm) (fun k hk cur hb => by
    have hk' : k = m := hk
    subst hk'
    exact hc.2.ne_ hb rfl)
theorem ChS.ref {w w' : World} {p m q : Nat} {S S2 : List Ac} (hc : ChS w p m S) (h : RfS w q S2) (hf : Fr (At1 q) w w') : ChS w' p m S :=
  hc.fr hf (fun hp => by
    obtain ⟨A, c, hb, _⟩ := h
    have hp' : p = q := hp
    subst hp'
    exact Blk.ne_ hc.1 hb (by decide) rfl) (fun hm => by
    obtain ⟨A, c, hb, _⟩ := h
    have hm' : m = q := hm
    exact hc.2.ne_ hb hm')
/-- both charts hold S -/
structure PlB (p m q : Nat) (S : List Ac) (w wx : World) : Prop where
  one : ChS wx p m S
  two : RfS wx q S
  fr : Fr (fun k => k = m ∨ k = q) w wx
def AcRel (w2 : World) (p m q : Nat) (n : Nat) (iv : Value) (wr : World) : Prop :=
  ∃ (i : Nat) (S : List Ac), i ≤ n ∧ iv = .int .i64 i ∧ Inv S ∧ PlB p m q S w2 wr
def MadeB (w : World) (e : Ending) (w' : World) : Prop :=
  ∃ p m q S, e = .returned (.tuple #[.pointer (some ⟨p, 0, none⟩), .pointer (some ⟨q, 0, none⟩)]) ∧ ChS w' p m S ∧ RfS w' q S ∧ Inv S ∧ Fr No w w' ∧ w.heap.size ≤ m ∧ w.heap.size ≤ q

set_option maxRecDepth 100000 in
set_option maxHeartbeats 4000000 in
theorem accts_any (A : Option Addr) (c : Nat) (cells : List Value) (T : List AcI) (w : World) (hr : Rd w (Lt w.heap.size) 4 A T.length cells) (hE : Each RdAc 4 cells T) (hc : T.length ≤ c) (hcm : c ≤ maxLen) :
    Calls Try.prog 10 #[.slice A T.length c] w (MadeB w) := by
  have HR := Lib.hid hr
  have HE := Lib.hid hE
  have hcm' := hcm
  unfold maxLen at hcm'
  have hTl : (T.length : Int) ≤ 9223372036854775807 := by omega
  clear hr hE hcm hcm'
  go_enter Try.func10, Try.ntmps10
  go_wp2_with fail
  refine (new_any w).mono ?_
  rintro e w3 ⟨p, m, rfl, hc1, hf1, hp1, hm1⟩
  have hs3 := hf1.size
  have HB2 : Hid (∀ o : Obj, Below w.heap.size w (w3.alloc o)) := fun o => (hf1.alloc o).belowNo
  have HST : Hid (PlB p m w3.heap.size [] (w3.alloc (.cells #[.slice none 0 0] 36)) (w3.alloc (.cells #[.slice none 0 0] 36))) :=
    ⟨hc1.no ((Fr.refl _ _).alloc _), ⟨none, 0, Blk.new w3 36 #[.slice none 0 0], Nat.le_refl _, Nat.zero_le _, Own.nil _ _ _⟩, Fr.refl _ _⟩
  have HRD : Hid (∀ o : Obj, Rd (w3.alloc o) (Lt w.heap.size) 4 A T.length cells) := fun o => HR.out.below (HB2.out o) fun _ h => h
  clear hc1 hf1 hp1 HR
  go_upto_block 0 with (fail)
  have HRD2 := Lib.hid (HRD.out (.cells #[.slice none 0 0] 36))
  have HB3 := Lib.hid (HB2.out (.cells #[.slice none 0 0] 36))
  clear HRD HB2
  generalize w3.heap.size = q at *
  generalize (w3.alloc (.cells #[.slice none 0 0] 36)) = w2 at *
  go_wp2_with fail
  go_loopw [6] (fun iv wr => AcRel w2 p m q T.length iv wr) (fun iv _ => T.length - (intOf iv).toNat)
  case atStart => exact ⟨0, [], Nat.zero_le _, rfl, Inv.nil, HST.out⟩
  case round =>
    obtain ⟨i, S, hi, rfl, hIS, hst⟩ := hrel
    by_cases hlt : i < T.length
    · by_cases h14 : i < 14
      · have h14' : (i : Int) < 14 := by omega
        have hFk : ∀ k, Lt w.heap.size k → ¬ (k = m ∨ k = q) := fun k hk hs => by
          have hk' : k < w.heap.size := hk
          rcases hs with rfl | rfl <;> omega
        obtain ⟨ad, rfl, had, hok, q0, q1, q2, q3⟩ := aci_at (HRD2.out.fr (by omega) hst.fr fun k hk _ hs => hFk k hk hs) HE.out i hlt hlt
        generalize T[i] = a at *
        obtain ⟨nm, hv, sv, lv⟩ := a
        unfold AcI.ok at hok
        simp only at q0 q1 q2 q3 hok
        have HOK := Lib.hid hok
        have HIS := Lib.hid hIS
        have HI1 : Hid (Inv (openS S nm.data.toList lv)) := inv_open hIS _ _ hok.2.2.2
        have HI2 : Hid (Inv (actS (fun a => giveE a (-1)) (fun a => giveA a (-1)) (openS S nm.data.toList lv) nm.data.toList)) := inv_give HI1.out _ _
        have HO1 : Hid (∀ W, ChS W p m S → Calls Try.prog 26 #[.pointer (some ⟨p, 0, none⟩), .string nm, .int .i64 lv] W (DeedsE p m (openE S nm.data.toList lv) (openS S nm.data.toList lv) W)) := fun W hW => open_any p m S nm lv W hW HOK.out.1 HOK.out.2.2.2 HIS.out.len
        have HO2 : Hid (∀ W, RfS W q S → Calls Try.prog 28 #[.pointer (some ⟨q, 0, none⟩), .string nm, .int .i64 lv] W (DeedsR q (openE S nm.data.toList lv) (openS S nm.data.toList lv) W)) := fun W hW => refopen_any q S nm lv W hW HIS.out HOK.out.1 HOK.out.2.2.2
        generalize openE S nm.data.toList lv = E1 at *
        generalize openS S nm.data.toList lv = S1 at *
        have HG1 : Hid (∀ W, ChS W p m S1 → Calls Try.prog 29 #[.pointer (some ⟨p, 0, none⟩), .string nm, .int .i64 (-1)] W (DeedsE p m (actE (fun a => giveE a (-1)) S1 nm.data.toList) (actS (fun a => giveE a (-1)) (fun a => giveA a (-1)) S1 nm.data.toList) W)) := fun W hW => give_any p m S1 nm (-1) W hW HOK.out.1 HI1.out.len HI1.out.ok (by unfold In64; omega)
        have HG2 : Hid (∀ W, RfS W q S1 → Calls Try.prog 30 #[.pointer (some ⟨q, 0, none⟩), .string nm, .int .i64 (-1)] W (DeedsR q (actE (fun a => giveE a (-1)) S1 nm.data.toList) (actS (fun a => giveE a (-1)) (fun a => giveA a (-1)) S1 nm.data.toList) W)) := fun W hW => refgive_any q S1 nm (-1) W hW HI1.out (by unfold In64; omega)
        generalize actE (fun a => giveE a (-1)) S1 nm.data.toList = E2 at *
        generalize actS (fun a => giveE a (-1)) (fun a => giveA a (-1)) S1 nm.data.toList = S2 at *
        have HBX := Lib.hid (Blk.new wr 49 #[.string nm, .int .i64 hv, .int .i64 sv, .int .i64 lv])
        have hbw : ¬ (wr.heap.size = m ∨ wr.heap.size = q) := fun h => by
          have h1 := hst.one.2.lt
          have h2 := hst.two.lt
          rcases h with h | h <;> omega
        have HCL : Hid (∀ W, Fr (fun k => k = m ∨ k = q) (wr.alloc (.cells #[.string nm, .int .i64 hv, .int .i64 sv, .int .i64 lv] 49)) W → (Fr (fun k => k = m ∨ k = q) (wr.alloc (.cells #[.string nm, .int .i64 hv, .int .i64 sv, .int .i64 lv] 49)) W ∧ W.cell? ⟨wr.heap.size, 0, none⟩ = some (.string nm) ∧ W.cell? ⟨wr.heap.size, 1, none⟩ = some (.int .i64 hv) ∧ W.cell? ⟨wr.heap.size, 2, none⟩ = some (.int .i64 sv) ∧ W.cell? ⟨wr.heap.size, 3, none⟩ = some (.int .i64 lv))) := fun W hW => by
          have hb := HBX.out.fr hW hbw
          exact ⟨hW, hb.cell 0, hb.cell 1, hb.cell 2, hb.cell 3⟩
        have HFR : Hid (Fr (fun k => k = m ∨ k = q) w2 (wr.alloc (.cells #[.string nm, .int .i64 hv, .int .i64 sv, .int .i64 lv] 49))) := hst.fr.alloc _
        have hcd : ChS (wr.alloc (.cells #[.string nm, .int .i64 hv, .int .i64 sv, .int .i64 lv] 49)).drew p m S := hst.one.no (((Fr.refl _ _).alloc _).drew)
        have hrd : RfS (wr.alloc (.cells #[.string nm, .int .i64 hv, .int .i64 sv, .int .i64 lv] 49)).drew q S := hst.two.no (((Fr.refl _ _).alloc _).drew)
        have hfd : Fr (fun k => k = m ∨ k = q) (wr.alloc (.cells #[.string nm, .int .i64 hv, .int .i64 sv, .int .i64 lv] 49)) (wr.alloc (.cells #[.string nm, .int .i64 hv, .int .i64 sv, .int .i64 lv] 49)).drew := (Fr.refl _ _).drew
        clear hst hIS hok hFk hbw
        go_upto_region 6 with (fail)
        generalize (wr.alloc (.cells #[.string nm, .int .i64 hv, .int .i64 sv, .int .i64 lv] 49)) = wb at *
        generalize wr.heap.size = bo at *
        go_cut [48] (fun a48 wx => a48 = .bool false ∧ PlB p m q S2 wb wx)
        case first =>
          go_wp2
          go_region_held3 (fun W => Fr (fun k => k = m ∨ k = q) wb W ∧ W.cell? ⟨bo, 0, none⟩ = some (.string nm) ∧ W.cell? ⟨bo, 1, none⟩ = some (.int .i64 hv) ∧ W.cell? ⟨bo, 2, none⟩ = some (.int .i64 sv) ∧ W.cell? ⟨bo, 3, none⟩ = some (.int .i64 lv))
            (exact HCL.out _ (by assumption))
            (first
              | (go_at_call 26; (with_reducible refine (HO1.out _ (by assumption)).mono ?_); rintro e w5 ⟨rfl, hc5, hf5⟩; have hr5 := RfS.map (by assumption) (by assumption) hf5; have hg5 := (fun h => Fr.trans (S := fun k => k = m ∨ k = q) (a := wb) h (hf5.mono fun _ _ h => Or.inl h)) (by first | assumption | (go_split_ands; assumption)))
              | (go_at_call 28; (with_reducible refine (HO2.out _ (by assumption)).mono ?_); rintro e w6 ⟨rfl, hr6, hf6⟩; have hc6 := ChS.ref (by assumption) (by assumption) hf6; have hg6 := (fun h => Fr.trans (S := fun k => k = m ∨ k = q) (a := wb) h (hf6.mono fun _ _ h => Or.inr h)) (by first | assumption | (go_split_ands; assumption)))
              | (go_at_call 29; (with_reducible refine (HG1.out _ (by assumption)).mono ?_); rintro e w7 ⟨rfl, hc7, hf7⟩; have hr7 := RfS.map (by assumption) (by assumption) hf7; have hg7 := (fun h => Fr.trans (S := fun k => k = m ∨ k = q) (a := wb) h (hf7.mono fun _ _ h => Or.inl h)) (by first | assumption | (go_split_ands; assumption)))
              | (go_at_call 30; (with_reducible refine (HG2.out _ (by assumption)).mono ?_); rintro e w8 ⟨rfl, hr8, hf8⟩; have hc8 := ChS.ref (by assumption) (by assumption) hf8; have hg8 := (fun h => Fr.trans (S := fun k => k = m ∨ k = q) (a := wb) h (hf8.mono fun _ _ h => Or.inr h)) (by first | assumption | (go_split_ands; assumption))))
          all_goals
            go_wp2
            go_meet
            exact ⟨rfl, ⟨by assumption, by assumption, by assumption⟩⟩
        case rest =>
          obtain ⟨rfl, hst8⟩ := hcut
          have HS8 := Lib.hid hst8
          have HG3 := Lib.hid (give_any p m S2 nm hv _ hst8.one HOK.out.1 HI2.out.len HI2.out.ok HOK.out.2.1)
          have HR3 : Hid (∀ W, RfS W q S2 → Calls Try.prog 30 #[.pointer (some ⟨q, 0, none⟩), .string nm, .int .i64 hv] W (DeedsR q (actE (fun a => giveE a hv) S2 nm.data.toList) (actS (fun a => giveE a hv) (fun a => giveA a hv) S2 nm.data.toList) W)) := fun W hW => refgive_any q S2 nm hv W hW HI2.out HOK.out.2.1
          have HI3 : Hid (Inv (actS (fun a => giveE a hv) (fun a => giveA a hv) S2 nm.data.toList)) := inv_give HI2.out _ _
          generalize actE (fun a => giveE a hv) S2 nm.data.toList = E3 at *
          generalize actS (fun a => giveE a hv) (fun a => giveA a hv) S2 nm.data.toList = S3 at *
          have HG4 : Hid (∀ W, ChS W p m S3 → Calls Try.prog 31 #[.pointer (some ⟨p, 0, none⟩), .string nm, .int .i64 sv] W (DeedsE p m (actE (fun a => asideE a sv) S3 nm.data.toList) (actS (fun a => asideE a sv) (fun a => asideA a sv) S3 nm.data.toList) W)) := fun W hW => aside_any p m S3 nm sv W hW HOK.out.1 HI3.out.len HI3.out.ok HOK.out.2.2.1
          have HR4 : Hid (∀ W, RfS W q S3 → Calls Try.prog 32 #[.pointer (some ⟨q, 0, none⟩), .string nm, .int .i64 sv] W (DeedsR q (actE (fun a => asideE a sv) S3 nm.data.toList) (actS (fun a => asideE a sv) (fun a => asideA a sv) S3 nm.data.toList) W)) := fun W hW => refaside_any q S3 nm sv W hW HI3.out HOK.out.2.2.1
          have HI4 : Hid (Inv (actS (fun a => asideE a sv) (fun a => asideA a sv) S3 nm.data.toList)) := inv_act HI3.out _ _ _ (ok_aside sv) (fun a => asideA_name a sv)
          generalize actE (fun a => asideE a sv) S3 nm.data.toList = E4 at *
          generalize actS (fun a => asideE a sv) (fun a => asideA a sv) S3 nm.data.toList = S4 at *
          obtain ⟨_, x0, x1, x2, x3⟩ := HCL.out _ hst8.fr
          clear hst8 hcd hrd hfd q0 q1 q2 q3 HO1 HO2 HG1 HG2
          go_wp2_with fail
          refine HG3.out.mono ?_
          rintro e w9 ⟨rfl, hc9, hf9⟩
          have HP9 : Hid (ChS w9 p m S3 ∧ RfS w9 q S2 ∧ Fr (fun k => k = m ∨ k = q) wb w9) := ⟨hc9, RfS.map HS8.out.two HS8.out.one hf9, HS8.out.fr.trans (hf9.mono fun _ _ h => Or.inl h)⟩
          clear hc9 hf9 x0 x1 x2 x3
          obtain ⟨_, x0, x1, x2, x3⟩ := HCL.out _ HP9.out.2.2
          go_wp2_with fail
          refine (HR3.out _ HP9.out.2.1).mono ?_
          rintro e w10 ⟨rfl, hr10, hf10⟩
          have HP10 : Hid (ChS w10 p m S3 ∧ RfS w10 q S3 ∧ Fr (fun k => k = m ∨ k = q) wb w10) := ⟨ChS.ref HP9.out.1 HP9.out.2.1 hf10, hr10, HP9.out.2.2.trans (hf10.mono fun _ _ h => Or.inr h)⟩
          clear hr10 hf10 x0 x1 x2 x3
          obtain ⟨_, x0, x1, x2, x3⟩ := HCL.out _ HP10.out.2.2
          go_wp2_with fail
          refine (HG4.out _ HP10.out.1).mono ?_
          rintro e w11 ⟨rfl, hc11, hf11⟩
          have HP11 : Hid (ChS w11 p m S4 ∧ RfS w11 q S3 ∧ Fr (fun k => k = m ∨ k = q) wb w11) := ⟨hc11, RfS.map HP10.out.2.1 HP10.out.1 hf11, HP10.out.2.2.trans (hf11.mono fun _ _ h => Or.inl h)⟩
          clear hc11 hf11 x0 x1 x2 x3
          obtain ⟨_, x0, x1, x2, x3⟩ := HCL.out _ HP11.out.2.2
          go_wp2_with fail
          refine (HR4.out _ HP11.out.2.1).mono ?_
          rintro e w12 ⟨rfl, hr12, hf12⟩
          have HP12 : Hid (PlB p m q S4 w2 w12) := ⟨ChS.ref HP11.out.1 HP11.out.2.1 hf12, hr12, HFR.out.trans (HP11.out.2.2.trans (hf12.mono fun _ _ h => Or.inr h))⟩
          clear hr12 hf12 x0 x1 x2 x3
          go_wp2
          go_roundw
          case rel => exact ⟨i + 1, S4, by omega, by go_num, HI4.out, HP12.out⟩
          case measure => simp [intOf]; omega
      · have h14' : ¬ (i : Int) < 14 := by omega
        have HM : Hid (MadeB w (.returned (.tuple #[.pointer (some ⟨p, 0, none⟩), .pointer (some ⟨q, 0, none⟩)])) wr) :=
          ⟨p, m, q, S, rfl, hst.one, hst.two, hIS, Fr.of_below (below_fr HB3.out hst.fr HB3.out.size (fun k hk => by rcases hk with rfl | rfl <;> omega)) _, by omega, by omega⟩
        clear hst hIS
        go_wp2
        go_ret2
        exact HM.out
    · have HM : Hid (MadeB w (.returned (.tuple #[.pointer (some ⟨p, 0, none⟩), .pointer (some ⟨q, 0, none⟩)])) wr) :=
        ⟨p, m, q, S, rfl, hst.one, hst.two, hIS, Fr.of_below (below_fr HB3.out hst.fr HB3.out.size (fun k hk => by rcases hk with rfl | rfl <;> omega)) _, by omega, by omega⟩
      clear hst hIS
      go_wp2
      go_ret2
      exact HM.out
end Go.Proofs.Ytpaeohmoecdniab
