/- ChartBack's walk. -/
import Derived.Test.YtneelnfcjmbboaaChartB
import Derived.Test.YtneelnfcjmbboaaChartI0
import Derived.Test.YtneelnfcjmbboaaChartI1
import Derived.Deep.DeepCutAuto
namespace Go.Proofs.Ytneelnfcjmbboaa
open Go.RowKit Go.My Go.Maps
set_option linter.unusedSimpArgs false
set_option linter.unusedVariables false
attribute [local go_sem ↓] Go.wp_at_zero Go.wp_at_succ

/-- between the steps -/
def BkRel (w2 : World) (p m : Nat) (n : Nat) (iv : Value) (wr : World) : Prop :=
  ∃ (i : Nat) (S : List Ac), i ≤ n ∧ iv = .int .i64 i ∧ ChS wr p m S ∧ Inv S ∧ Fr (At1 m) w2 wr
/-- both charts hold S -/
structure BkB (wA : World) (p m p2 m2 : Nat) (S : List Ac) (wx : World) : Prop where
  one : ChS wx p m S
  two : ChS wx p2 m2 S
  fr : Fr (fun k => k = m ∨ k = m2) wA wx
def BkX (a : Value) (y : Int) : Prop := a = .int .i64 y ∧ 0 ≤ y ∧ y ≤ 9223372036854775807
def BkXE (a : Value) (wA wx : World) : Prop := ∃ y, BkX a y ∧ wA = wx

set_option maxRecDepth 100000 in
set_option maxHeartbeats 4000000 in
theorem chartBack_walk (A : Option Addr) (c : Nat) (cells : List Value) (l : List OpC) (nm : ByteArray) (x : Int) (w : World) (hr : Rd w (Lt w.heap.size) 3 A l.length cells) (hlc : l.length ≤ c) (hcm : c ≤ maxLen) (hE : Each RdC 3 cells l) (hnm : nm.size ≤ maxLen) (hx : In64 x) :
    Calls Try.prog 5 #[.slice A l.length c, .string nm, .int .i64 x] w (RetTrue w) := by
  have HR := Lib.hid hr
  have HEA := Lib.hid hE
  have HCM := Lib.hid hcm
  have HLC := Lib.hid hlc
  have HNM := Lib.hid hnm
  have HX := Lib.hid hx
  clear hr hE hcm hlc hnm hx
  go_enter Try.func5, Try.ntmps5
  go_wp2_with fail
  refine (livesH _).mono ?_
  rintro e w1 ⟨rfl, hb1⟩
  go_wp2_with fail
  refine (new_any w1).mono ?_
  rintro e w2 ⟨p, m, rfl, hc1, hf1, hp1, hm1⟩
  have hs1 := hb1.size
  have hB2 : Below w.heap.size w w2 := below_fr_no hb1 hf1 hb1.size
  have hm1' : w.heap.size ≤ m := by omega
  have HRD := Lib.hid (HR.out.below hB2 fun _ h => h)
  have HB2 := Lib.hid hB2
  have HC1 := Lib.hid hc1
  clear hc1 hf1 hp1 hm1 hb1 hs1 hB2 HR
  obtain ⟨n, hn, hn2, hEA⟩ : ∃ n, n ≤ l.length ∧ n ≤ 150 ∧ ∀ W, Calls Try.prog 10 #[.slice A l.length c] W fun e w' => e = .returned (.slice A n c) ∧ W = w' := ⟨min l.length 150, by omega, by omega, fun W => early5_any _ _ _ _ HLC.out HCM.out⟩
  have HEY := Lib.hid hEA
  clear hEA
  go_wp2_with (go_at_call 10; refine (HEY.out _).mono ?_; rintro e w4 ⟨rfl, rfl⟩)
  go_loopw [8] (fun iv wr => BkRel w2 p m n iv wr) (fun iv _ => n - (intOf iv).toNat)
  case atStart => exact ⟨0, [], Nat.zero_le _, rfl, HC1.out, Inv.nil, Fr.refl _ _⟩
  case round =>
    obtain ⟨i, S, hi, rfl, hcS, hIS, hfr⟩ := hrel
    by_cases hlt : i < n
    · have hil : i < l.length := by omega
      have hRw : Rd wr (Lt w.heap.size) 3 A l.length cells := HRD.out.fr (by omega) hfr fun k hk _ hs => by
        have hk' : k < w.heap.size := hk
        have : k = m := hs
        omega
      obtain ⟨ad, rfl, had, hok, q0, q1, q2⟩ := scr_at hRw HEA.out i hil hil
      generalize l[i] = o at *
      have HD := Lib.hid (does_any p m S o wr hcS hIS hok)
      have HI := Lib.hid (inv_does hIS o hok)
      have HFR := Lib.hid hfr
      unfold OpC.val at HD
      clear hcS hIS hfr hRw had hok
      go_wp2_with fail
      refine HD.out.mono ?_
      rintro e w5 ⟨rfl, hc5, hf5⟩
      go_wp2
      go_roundw
      case rel => exact ⟨i + 1, _, by omega, by go_num, hc5, HI.out, HFR.out.trans hf5⟩
      case measure => simp [intOf]; omega
    · obtain rfl : i = n := by omega
      have HIS := Lib.hid hIS
      have HFR := Lib.hid hfr
      have HAL := Lib.hid (all_any p m S wr hcS hIS.nm hIS.len)
      have HCS := Lib.hid hcS
      clear hcS hIS hfr
      go_wp2_with fail
      refine HAL.out.mono ?_
      rintro e w9 ⟨vw, rfl, how, hf9, hn9⟩
      obtain ⟨Aw, cw, rfl, hlw, hcw⟩ := how.form
      have hc9 := HCS.out.no (fr_at_none hf9)
      have HCP := Lib.hid (copy_any p m S w9 hc9)
      have HOW := Lib.hid how
      have HN9 := Lib.hid (newer_none hn9)
      have HF9 := Lib.hid (fr_at_none hf9)
      have HC9 := Lib.hid hc9
      clear how hf9 hn9 hc9 HAL
      go_wp2_with fail
      refine HCP.out.mono ?_
      rintro e wA ⟨p2, m2, rfl, hcA, hfA, hpA, hmA⟩
      have hBA : Below w.heap.size w wA := below_fr_no (below_fr_no (below_fr HB2.out HFR.out HB2.out.size (fun k hk => by have : k = m := hk; omega)) HF9.out (by have := HB2.out.size; have := HFR.out.size; omega)) hfA (by have := HB2.out.size; have := HFR.out.size; have := HF9.out.size; omega)
      have hwA : Rd wA (fun k => wr.heap.size ≤ k ∧ k < w9.heap.size) 4 Aw S.length (acs S) :=
        Rd.fr ((HOW.out.rd.lt (by omega)).more fun k hk => ⟨HN9.out k hk.1, hk.2⟩) (by omega) hfA (fun _ _ _ h => h)
      have hmw : m < wr.heap.size := HCS.out.2.lt
      have hcB : ChS wA p m S := HC9.out.no hfA
      have hpm : p ≠ m := fun h => hcB.ne_ h.symm
      have hpw : p < wr.heap.size := HCS.out.1.lt
      have hrs : wr.heap.size ≤ w9.heap.size := HF9.out.size
      have HBA := Lib.hid hBA
      have HWA := Lib.hid hwA
      have HST : Hid (BkB wA p m p2 m2 S wA) := ⟨hcB, hcA, Fr.refl _ _⟩
      have h22 : p2 ≠ m2 := fun h => hcA.ne_ h.symm
      clear hcA hfA hBA hwA hcB HCP HC9 HCS HOW HN9 HF9 HC1 HRD
      go_upto_if 38 with (fail)
      go_cut [2] (fun a2 wx => BkXE a2 wA wx)
      case first =>
        have hx1 := HX.out.1
        have hx2 := HX.out.2
        by_cases hneg : x < 0
        · go_wp2
          go_meet
          exact ⟨-1 - x, ⟨rfl, by omega, by omega⟩, rfl⟩
        · go_wp2
          go_meet
          exact ⟨x, ⟨rfl, by omega, by omega⟩, rfl⟩
      case rest =>
        obtain ⟨y, ⟨rfl, hy0, hy1⟩, rfl⟩ := hcut
        have HY : Hid (In64 y) := by show In64 y; unfold In64; omega
        obtain ⟨E, D1, hE1, hD1⟩ : ∃ E D1, actE (fun a => giveE a y) S nm.data.toList = E ∧ actS (fun a => giveE a y) (fun a => giveA a y) S nm.data.toList = D1 := ⟨_, _, rfl, rfl⟩
        have hG := give_any p2 m2 S nm y wA HST.out.two HNM.out HIS.out.len HIS.out.ok HY.out
        rw [hE1, hD1] at hG
        have HG := Lib.hid hG
        have HE1 := Lib.hid hE1
        have HD1 := Lib.hid hD1
        clear hG hE1 hD1
        have hpm2 : p ≠ m2 := by omega
        have hmm2 : m ≠ m2 := by omega
        have hp2m : p2 ≠ m := by omega
        go_upto_if 45 with (go_at_call 21; (with_reducible refine HG.out.mono ?_); rintro e w10 ⟨rfl, hc10, hf10⟩)
        have HC10 := Lib.hid hc10
        have HCC : Hid (ChS w10 p m S) := HST.out.one.fr hf10 hpm2 hmm2
        have HF10 : Hid (Fr (fun k => k = m ∨ k = m2) wA w10) := hf10.mono fun _ _ h => Or.inr h
        clear hc10 hf10 HG
        go_cut [10] (fun a10 wx => a10 = .pointer (some ⟨p2, 0, none⟩) ∧ BkB wA p m p2 m2 S wx)
        case first =>
          by_cases h0 : E = 0
          · subst h0
            obtain ⟨a, hga, hin, hS1, hE2, hS2⟩ := give_back HIS.out ⟨hy0, hy1⟩ HE1.out
            rw [HD1.out] at hS1
            have hok := (HIS.out.ok a (getA_some hga).1).1
            have hgn := (getA_some hga).2
            have hV2 : getA D1 nm.data.toList = some { a with hv := a.hv - y } := by
              rw [hS1, ← hgn]
              exact getA_put_same S { a with hv := a.hv - y }
            have hL1 : D1.length ≤ 12 := by
              have h1 := length_put { a with hv := a.hv - y } S HIS.out.rise
              rw [← hS1] at h1
              simp only at h1
              rw [hgn, hga] at h1
              have := HIS.out.len
              simp at h1
              omega
            have hO1 : OkS D1 := by
              intro b hb
              rw [hS1] at hb
              rcases mem_putA hb with rfl | hb
              · exact ⟨hin, (HIS.out.ok a (getA_some hga).1).2⟩
              · exact HIS.out.ok b hb
            rw [← hS1] at hE2 hS2
            have HGC : Hid (Calls Try.prog 22 #[.pointer (some ⟨p, 0, none⟩), .string nm] w10 fun e w' => e = .returned (.tuple #[.agg #[.string ⟨a.name.toArray⟩, .int .i64 a.hv, .int .i64 a.st, .int .i64 a.lim], .int .i64 0]) ∧ ChS w' p m S ∧ Fr (At1 m) w10 w') :=
              (get_any p m S nm w10 HCC.out HNM.out HIS.out.len).mono fun e w' h => ⟨by rw [h.1]; unfold getV; rw [hga]; rfl, h.2⟩
            have HGD : Hid (∀ W, ChS W p2 m2 D1 → Calls Try.prog 22 #[.pointer (some ⟨p2, 0, none⟩), .string nm] W fun e w' => e = .returned (.tuple #[.agg #[.string ⟨a.name.toArray⟩, .int .i64 (a.hv - y), .int .i64 a.st, .int .i64 a.lim], .int .i64 0]) ∧ ChS w' p2 m2 D1 ∧ Fr (At1 m2) W w') := fun W hW =>
              (get_any p2 m2 D1 nm W hW HNM.out hL1).mono fun e w' h => ⟨by rw [h.1]; unfold getV; rw [hV2]; rfl, h.2⟩
            have HGV : Hid (∀ W, ChS W p2 m2 D1 → Calls Try.prog 21 #[.pointer (some ⟨p2, 0, none⟩), .string nm, .int .i64 (-y)] W fun e w' => e = .returned (.int .i64 0) ∧ ChS w' p2 m2 S ∧ Fr (At1 m2) W w') := fun W hW => by
              have h := give_any p2 m2 D1 nm (-y) W hW HNM.out hL1 hO1 (by unfold In64; omega)
              rw [hE2, hS2] at h
              exact h
            obtain ⟨na, va, sa, la⟩ := a
            unfold In64 at hin hok
            simp only at hin hok HGC HGD
            obtain ⟨hin1, hin2⟩ := hin
            obtain ⟨hok1, hok2⟩ := hok
            clear hga hS1 hE2 hS2 hgn hV2 hL1 hO1
            go_wp2_with fail
            (with_reducible refine HGC.out.mono ?_)
            rintro e w11 ⟨rfl, hc11, hf11⟩
            have hb11 : AcB (w11.alloc (.cells #[.string ⟨na.toArray⟩, .int .i64 va, .int .i64 sa, .int .i64 la] 43)) w11.heap.size ⟨na, va, sa, la⟩ := Blk.new w11 43 #[.string ⟨na.toArray⟩, .int .i64 va, .int .i64 sa, .int .i64 la]
            have hd11 : ChS w11 p2 m2 D1 := HC10.out.fr hf11 hp2m (fun h => hmm2 h.symm)
            have hml : m2 < w11.heap.size := hd11.2.lt
            have HC11 := Lib.hid hc11
            have HD11 := Lib.hid hd11
            have HB11 := Lib.hid hb11
            have HF11 : Hid (Fr (fun k => k = m ∨ k = m2) wA w11) := HF10.out.trans (hf11.mono fun _ _ h => Or.inl h)
            clear hc11 hf11 hb11 hd11 HGC
            go_wp2_with fail
            (with_reducible refine (HGD.out _ (HD11.out.no ((Fr.refl _ _).alloc _))).mono ?_)
            rintro e w12 ⟨rfl, hc12, hf12⟩
            have hb12 : AcB w12 w11.heap.size ⟨na, va, sa, la⟩ := HB11.out.fr hf12 (fun h => by have : w11.heap.size = m2 := h; omega)
            have hb13 := Blk.alloc hb12 (.cells #[.string ⟨na.toArray⟩, .int .i64 (va - y), .int .i64 sa, .int .i64 la] 43)
            have hb14 := Blk.new w12 43 #[.string ⟨na.toArray⟩, .int .i64 (va - y), .int .i64 sa, .int .i64 la]
            have g1 := hb13.cell 1
            have g2 := hb14.cell 1
            simp only [List.getElem?_toArray, List.getElem?_cons_zero, List.getElem?_cons_succ] at g1 g2
            have hl12 := hb12.lt
            have HC12 := Lib.hid hc12
            have HF12 : Hid (Fr (At1 m2) w11 w12) := Fr.trans (S := At1 m2) ((Fr.refl _ _).alloc _) hf12
            clear hb12 hb13 hb14 hc12 hf12
            have hone : ChS w12 p m S := HC11.out.fr HF12.out hpm2 hmm2
            have HONE := Lib.hid hone
            clear hone
            go_wp2_with (go_at_call 21; (with_reducible refine (HGV.out _ (HC12.out.no ((Fr.refl _ _).alloc _))).mono ?_); rintro e w13 ⟨rfl, hc13, hf13⟩)
            go_meet
            have hf13' := Fr.trans (S := At1 m2) ((Fr.refl _ _).alloc _) hf13
            exact ⟨rfl, ⟨HONE.out.fr hf13' hpm2 hmm2, hc13, (HF11.out.trans (HF12.out.mono fun _ _ h => Or.inr h)).trans (hf13'.mono fun _ _ h => Or.inr h)⟩⟩
          · have hz : (E == 0) = false := beq_eq_false_iff_ne.2 h0
            have HS : Hid (D1 = S) := by
              show D1 = S
              rw [← HD1.out]
              exact act_err (by rw [HE1.out]; exact h0)
            clear h0
            go_wp2
            go_meet
            exact ⟨rfl, ⟨HCC.out, HS.out ▸ HC10.out, HF10.out⟩⟩
        case rest =>
          obtain ⟨rfl, hst2⟩ := hcut
          obtain ⟨E2, D4, hE4, hD4⟩ : ∃ E D, actE (fun a => asideE a y) S nm.data.toList = E ∧ actS (fun a => asideE a y) (fun a => asideA a y) S nm.data.toList = D := ⟨_, _, rfl, rfl⟩
          have hA := aside_any p2 m2 S nm y _ hst2.two HNM.out HIS.out.len HIS.out.ok HY.out
          rw [hE4, hD4] at hA
          have HA := Lib.hid hA
          have HE4 := Lib.hid hE4
          have HD4 := Lib.hid hD4
          have HS2 := Lib.hid hst2
          have HI4 : Hid (Inv D4) := by
            show Inv D4
            rw [← hD4]
            exact inv_act HIS.out _ _ _ (ok_aside y) (fun a => asideA_name a y)
          clear hA hE4 hD4 HC10 HCC HF10 HST hst2
          go_upto_region 18 with (fail)
          go_cut [10, 93] (fun a10 a93 wx => (a10 = .pointer (some ⟨p2, 0, none⟩) ∧ a93 = .bool false) ∧ BkB wA p m p2 m2 S wx)
          case first =>
            by_cases h0 : E2 = 0
            · subst h0
              obtain ⟨hE5, hS5⟩ := aside_back HIS.out ⟨hy0, hy1⟩ HE4.out
              rw [HD4.out] at hE5 hS5
              have HAB : Hid (∀ W, ChS W p2 m2 D4 → Calls Try.prog 23 #[.pointer (some ⟨p2, 0, none⟩), .string nm, .int .i64 (-y)] W fun e w' => e = .returned (.int .i64 0) ∧ ChS w' p2 m2 S ∧ Fr (At1 m2) W w') := fun W hW => by
                have h := aside_any p2 m2 D4 nm (-y) W hW HNM.out HI4.out.len HI4.out.ok (by unfold In64; omega)
                rw [hE5, hS5] at h
                exact h
              clear hE5 hS5
              go_wp2_with fail
              (with_reducible refine HA.out.mono ?_)
              rintro e w14 ⟨rfl, hc14, hf14⟩
              have HC14 := Lib.hid hc14
              have HF14 := Lib.hid hf14
              clear hc14 hf14
              go_wp2_with (go_at_call 23; (with_reducible refine (HAB.out _ HC14.out).mono ?_); rintro e w15 ⟨rfl, hc15, hf15⟩)
              go_meet
              exact ⟨⟨rfl, rfl⟩, ⟨(HS2.out.one.fr HF14.out hpm2 hmm2).fr hf15 hpm2 hmm2, hc15, HS2.out.fr.trans ((HF14.out.trans hf15).mono fun _ _ h => Or.inr h)⟩⟩
            · have hz : (E2 == 0) = false := beq_eq_false_iff_ne.2 h0
              have HS : Hid (D4 = S) := by
                show D4 = S
                rw [← HD4.out]
                exact act_err (by rw [HE4.out]; exact h0)
              clear h0
              go_wp2_with fail
              (with_reducible refine HA.out.mono ?_)
              rintro e w14 ⟨rfl, hc14, hf14⟩
              have HC14 := Lib.hid hc14
              have HF14 := Lib.hid hf14
              clear hc14 hf14
              go_wp2
              go_meet
              exact ⟨⟨rfl, rfl⟩, ⟨HS2.out.one.fr HF14.out hpm2 hmm2, HS.out ▸ HC14.out, HS2.out.fr.trans (HF14.out.mono fun _ _ h => Or.inr h)⟩⟩
          case rest =>
            obtain ⟨⟨rfl, rfl⟩, hst3⟩ := hcut
            have HS3 := Lib.hid hst3
            have HAL2 := Lib.hid (all_any p2 m2 S _ hst3.two HIS.out.nm HIS.out.len)
            have HW3 := Lib.hid (HWA.out.fr (by omega) hst3.fr fun k hk _ h => by rcases h with rfl | rfl <;> omega)
            clear HA HD4 HE4 HI4 HS2 HE1 HD1 hst3
            go_wp2_with fail
            (with_reducible refine HAL2.out.mono ?_)
            rintro e w16 ⟨v16, rfl, ho16, hf16', hn16⟩
            obtain ⟨A16, c16, rfl, hl16, hc16⟩ := ho16.form
            have hf16 := fr_at_none hf16'
            have hsm := sameA_any _ _ A16 Aw c16 cw S S w16 ho16.rd (HW3.out.fr (by omega) hf16 fun _ _ _ h => h) (by have := HIS.out.len; omega)
            rw [decide_eq_true rfl] at hsm
            have HSM := Lib.hid hsm
            have HF16 := Lib.hid hf16
            clear hsm ho16 hf16' hn16 hf16
            go_wp2_with fail
            (with_reducible refine HSM.out.mono ?_)
            rintro e w17 ⟨rfl, j17, rfl⟩
            have hst17 : BkB wA p m p2 m2 S (w16.drewN j17) := ⟨HS3.out.one.no (HF16.out.drewN _), HS3.out.two.no (HF16.out.drewN _), HS3.out.fr.trans ((HF16.out.drewN _).mono fun _ _ h => False.elim h)⟩
            have HS17 := Lib.hid hst17
            have HOP := Lib.hid (open_any p2 m2 S ⟨#[122, 122]⟩ 7 _ hst17.two (by decide) (by unfold In64; omega) HIS.out.len)
            have HI5 : Hid (Inv (openS S (⟨#[122, 122]⟩ : ByteArray).data.toList 7)) := inv_open HIS.out _ _ (by unfold In64; omega)
            clear hst17 HSM HF16 HS3 HAL2
            generalize openS S (⟨#[122, 122]⟩ : ByteArray).data.toList 7 = D5 at *
            go_wp2_with fail
            (with_reducible refine HOP.out.mono ?_)
            rintro e w18 ⟨rfl, hc18, hf18⟩
            have HGZ := Lib.hid (give_any p2 m2 D5 ⟨#[122, 122]⟩ 1 w18 hc18 (by decide) HI5.out.len HI5.out.ok (by unfold In64; omega))
            have HF18 := Lib.hid hf18
            clear hc18 hf18 HOP
            go_wp2_with fail
            (with_reducible refine HGZ.out.mono ?_)
            rintro e w19 ⟨rfl, hc19, hf19⟩
            have hf20 := HF18.out.trans hf19
            have hone : ChS w19 p m S := HS17.out.one.fr hf20 hpm2 hmm2
            have hfr : Fr (fun k => k = m ∨ k = m2) wA w19 := HS17.out.fr.trans (hf20.mono fun _ _ h => Or.inr h)
            have HAL3 := Lib.hid (all_any p m S w19 hone HIS.out.nm HIS.out.len)
            have HW19 := Lib.hid (HWA.out.fr (by omega) hfr fun k hk _ h => by rcases h with rfl | rfl <;> omega)
            have HFR19 := Lib.hid hfr
            clear hc19 hf19 hf20 hone hfr HGZ HF18 HS17 HW3
            go_wp2_with fail
            (with_reducible refine HAL3.out.mono ?_)
            rintro e w21 ⟨v21, rfl, ho21, hf21', hn21⟩
            obtain ⟨A21, c21, rfl, hl21, hc21⟩ := ho21.form
            have hf21 := fr_at_none hf21'
            have hsm := sameA_any _ _ A21 Aw c21 cw S S w21 ho21.rd (HW19.out.fr (by omega) hf21 fun _ _ _ h => h) (by have := HIS.out.len; omega)
            rw [decide_eq_true rfl] at hsm
            have HSM := Lib.hid hsm
            have HF21 := Lib.hid hf21
            clear hsm ho21 hf21' hn21 hf21
            go_wp2_with fail
            (with_reducible refine HSM.out.mono ?_)
            rintro e w22 ⟨rfl, j22, rfl⟩
            go_wp2
            go_ret
            have h1 : Fr (fun k => k = m ∨ k = m2) wA (w21.drewN j22) := HFR19.out.trans ((HF21.out.drewN _).mono fun _ _ h => False.elim h)
            exact ⟨rfl, below_fr HBA.out h1 HBA.out.size (fun k hk => by rcases hk with rfl | rfl <;> omega)⟩
end Go.Proofs.Ytneelnfcjmbboaa
