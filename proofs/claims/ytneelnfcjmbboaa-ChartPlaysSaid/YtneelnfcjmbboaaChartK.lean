/- ChartPlays' walk. -/
import Derived.Test.YtneelnfcjmbboaaChartB
import Derived.Test.YtneelnfcjmbboaaChartK0
import Derived.Deep.RegionHeld3
import Derived.Deep.DeepCutAuto
namespace Go.Proofs.Ytneelnfcjmbboaa
open Go.RowKit Go.My Go.Maps
set_option linter.unusedSimpArgs false
set_option linter.unusedVariables false
attribute [local go_sem ↓] Go.wp_at_zero Go.wp_at_succ

/-- both charts hold S -/
structure PlB (p m q : Nat) (S : List Ac) (w wx : World) : Prop where
  one : ChS wx p m S
  two : RfS wx q S
  fr : Fr (fun k => k = m ∨ k = q) w wx
def PlRel (w2 : World) (p m q : Nat) (n : Nat) (iv : Value) (wr : World) : Prop :=
  ∃ (i : Nat) (S : List Ac), i ≤ n ∧ iv = .int .i64 i ∧ Inv S ∧ PlB p m q S w2 wr

theorem RfS.map {w w' : World} {p m q : Nat} {S S2 : List Ac} (h : RfS w q S) (hc : ChS w p m S2) (hf : Fr (At1 m) w w') : RfS w' q S :=
  h.fr hf (fun hq => by
    obtain ⟨A, c, hb, _⟩ := h
    have hq' : q = m := hq
    exact hc.2.ne_ hb hq'.symm) (fun k hk cur hb => by
    have hk' : k = m := hk
    subst hk'
    exact hc.2.ne_ hb rfl)
theorem ChS.ref {w w' : World} {p m q : Nat} {S S2 : List Ac} (hc : ChS w p m S) (h : RfS w q S2) (hf : Fr (At1 q) w w') : ChS w' p m S :=
  hc.fr hf (fun hp => by
    obtain ⟨A, c, hb, _⟩ := h
    have hp' : p = q := hp
    subst hp'
    exact Blk.ne_ hc.1 hb (by decide) rfl) (fun hm => by
    obtain ⟨A, c, hb, _⟩ := h
    have hm' : m = q := hm
    exact hc.2.ne_ hb hm')

set_option maxRecDepth 100000 in
set_option maxHeartbeats 4000000 in
theorem chartPlays_walk (A : Option Addr) (c : Nat) (cells : List Value) (l : List OpC) (w : World) (hr : Rd w (Lt w.heap.size) 3 A l.length cells) (hlc : l.length ≤ c) (hcm : c ≤ maxLen) (hE : Each RdC 3 cells l) :
    Calls Try.prog 3 #[.slice A l.length c] w (RetTrue w) := by
  have HR := Lib.hid hr
  have HEA := Lib.hid hE
  have HCM := Lib.hid hcm
  have HLC := Lib.hid hlc
  clear hr hE hcm hlc
  go_enter Try.func3, Try.ntmps3
  go_wp2_with fail
  refine (livesH _).mono ?_
  rintro e w1 ⟨rfl, hb1⟩
  go_wp2_with fail
  refine (new_any w1).mono ?_
  rintro e w3 ⟨p, m, rfl, hc1, hf1, hp1, hm1⟩
  have hs1 := hb1.size
  have hs3 := hf1.size
  have hm1' : w.heap.size ≤ m := by omega
  have hq1 : w.heap.size ≤ w3.heap.size := by omega
  have hB3 : Below w.heap.size w w3 := below_fr_no hb1 hf1 hb1.size
  have HB2 : Hid (∀ o : Obj, Below w.heap.size w (w3.alloc o)) := fun o => below_fr_no hB3 ((Fr.refl _ _).alloc o) hq1
  have HST : Hid (PlB p m w3.heap.size [] (w3.alloc (.cells #[.slice none 0 0] 29)) (w3.alloc (.cells #[.slice none 0 0] 29))) :=
    ⟨hc1.no ((Fr.refl _ _).alloc _), ⟨none, 0, Blk.new w3 29 #[.slice none 0 0], Nat.le_refl _, Nat.zero_le _, Own.nil _ _ _⟩, Fr.refl _ _⟩
  have HRD : Hid (∀ o : Obj, Rd (w3.alloc o) (Lt w.heap.size) 3 A l.length cells) := fun o => HR.out.below (HB2.out o) fun _ h => h
  clear hc1 hf1 hp1 hm1 hb1 hs1 hs3 hB3 HR
  obtain ⟨n, hn, hn2, hEA⟩ : ∃ n, n ≤ l.length ∧ n ≤ 150 ∧ ∀ W, Calls Try.prog 10 #[.slice A l.length c] W fun e w' => e = .returned (.slice A n c) ∧ W = w' := ⟨min l.length 150, by omega, by omega, fun W => early5_any _ _ _ _ HLC.out HCM.out⟩
  have HEY := Lib.hid hEA
  clear hEA
  go_wp2_with (go_at_call 10; refine (HEY.out _).mono ?_; rintro e w4 ⟨rfl, rfl⟩)
  have HRD2 := Lib.hid (HRD.out (.cells #[.slice none 0 0] 29))
  have HB3 := Lib.hid (HB2.out (.cells #[.slice none 0 0] 29))
  clear HRD HB2
  generalize w3.heap.size = q at *
  generalize (w3.alloc (.cells #[.slice none 0 0] 29)) = w2 at *
  go_loopw [5] (fun iv wr => PlRel w2 p m q n iv wr) (fun iv _ => n - (intOf iv).toNat)
  case atStart => exact ⟨0, [], Nat.zero_le _, rfl, Inv.nil, HST.out⟩
  case round =>
    obtain ⟨i, S, hi, rfl, hIS, hst⟩ := hrel
    by_cases hlt : i < n
    · have hil : i < l.length := by omega
      have hFk : ∀ k, Lt w.heap.size k → ¬ (k = m ∨ k = q) := fun k hk hs => by
        have hk' : k < w.heap.size := hk
        rcases hs with rfl | rfl <;> omega
      have hRw : Rd wr (Lt w.heap.size) 3 A l.length cells := HRD2.out.fr (by omega) hst.fr fun k hk _ hs => hFk k hk hs
      obtain ⟨ad, rfl, had, hok, q0, q1, q2⟩ := scr_at hRw HEA.out i hil hil
      have HCL : Hid (∀ W, Fr (fun k => k = m ∨ k = q) wr W → (Fr (fun k => k = m ∨ k = q) wr W ∧ W.cell? (ad.add (i * 3)) = some (.int .i64 l[i].kind) ∧ W.cell? ⟨(ad.add (i * 3)).block, (ad.add (i * 3)).off + 1, none⟩ = some (.string l[i].name) ∧ W.cell? ⟨(ad.add (i * 3)).block, (ad.add (i * 3)).off + 2, none⟩ = some (.int .i64 l[i].x))) := fun W hW => by
        have hb : ¬ ((ad.add (i * 3)).block = m ∨ (ad.add (i * 3)).block = q) := hFk _ (by rw [block_of_add]; exact had)
        exact ⟨hW, hW.cell_some q0 hb, hW.cell_some q1 hb, hW.cell_some q2 hb⟩
      generalize l[i] = o at *
      have HOK := Lib.hid hok
      have HIS := Lib.hid hIS
      have HI6 : Hid (Inv (doesS S o)) := inv_does hIS o hok
      have HDO : Hid (∀ W, ChS W p m S → Calls Try.prog 11 #[.pointer (some ⟨p, 0, none⟩), .agg #[.int .i64 o.kind, .string o.name, .int .i64 o.x]] W (DeedsE p m (doesE S o) (doesS S o) W)) := fun W hW => does_any p m S o W hW HIS.out HOK.out
      have HDR : Hid (∀ W, RfS W q S → Calls Try.prog 12 #[.pointer (some ⟨q, 0, none⟩), .agg #[.int .i64 o.kind, .string o.name, .int .i64 o.x]] W (DeedsR q (doesE S o) (doesS S o) W)) := fun W hW => refdoes_any q S o W hW HIS.out HOK.out
      have HFR := Lib.hid hst.fr
      have hcd : ChS wr.drew p m S := hst.one.no ((Fr.refl _ _).drew)
      have hrd : RfS wr.drew q S := hst.two.no ((Fr.refl _ _).drew)
      have hfd : Fr (fun k => k = m ∨ k = q) wr wr.drew := (Fr.refl _ _).drew
      clear hst hIS hok hRw had hFk
      generalize doesE S o = ev at *
      generalize doesS S o = S' at *
      go_upto_region 8 with (fail)
      go_cut [6, 7] (fun a6 a7 wx => (a6 = .int .i64 ev ∧ a7 = .int .i64 ev) ∧ PlB p m q S' wr wx)
      case first =>
        go_wp2
        go_region_held3 (fun W => Fr (fun k => k = m ∨ k = q) wr W ∧ W.cell? (ad.add (i * 3)) = some (.int .i64 o.kind) ∧ W.cell? ⟨(ad.add (i * 3)).block, (ad.add (i * 3)).off + 1, none⟩ = some (.string o.name) ∧ W.cell? ⟨(ad.add (i * 3)).block, (ad.add (i * 3)).off + 2, none⟩ = some (.int .i64 o.x))
          (exact HCL.out _ (by assumption))
          (first
            | (go_at_call 11; (with_reducible refine (HDO.out _ (by assumption)).mono ?_); rintro e w5 ⟨rfl, hc5, hf5⟩; have hr5 := RfS.map (by assumption) (by assumption) hf5; have hg5 := (fun h => Fr.trans (S := fun k => k = m ∨ k = q) (a := wr) h (hf5.mono fun _ _ h => Or.inl h)) (by first | assumption | (go_split_ands; assumption)))
            | (go_at_call 12; (with_reducible refine (HDR.out _ (by assumption)).mono ?_); rintro e w6 ⟨rfl, hr6, hf6⟩; have hc6 := ChS.ref (by assumption) (by assumption) hf6; have hg6 := (fun h => Fr.trans (S := fun k => k = m ∨ k = q) (a := wr) h (hf6.mono fun _ _ h => Or.inr h)) (by first | assumption | (go_split_ands; assumption))))
        all_goals
          go_wp2
          go_meet
          exact ⟨⟨rfl, rfl⟩, ⟨by assumption, by assumption, by assumption⟩⟩
      case rest =>
        obtain ⟨⟨rfl, rfl⟩, hst8⟩ := hcut
        obtain ⟨v1, n1, hv1⟩ : ∃ v n, two64 (total (hvs S')) = .tuple #[.int .i64 v, .int .i64 n] := ⟨_, _, rfl⟩
        have hT := tot_any p m S' _ hst8.one HI6.out
        have HT2 : Hid (∀ W, RfS W q S' → Calls Try.prog 14 #[.pointer (some ⟨q, 0, none⟩)] W fun e w' => e = .returned (.tuple #[.int .i64 v1, .int .i64 n1]) ∧ Fr No W w') := fun W hW => by
          have h := reftot_any q S' W hW HI6.out
          rw [hv1] at h
          exact h
        rw [hv1] at hT
        have HT := Lib.hid hT
        have HS8 := Lib.hid hst8
        clear hT hv1 hst8 hcd hrd hfd q0 q1 q2 HDO HDR
        go_wp2_with fail
        refine HT.out.mono ?_
        rintro e w9 ⟨rfl, hf9⟩
        have HF9 := Lib.hid hf9
        clear hf9
        go_wp2_with fail
        refine (HT2.out _ (HS8.out.two.no HF9.out)).mono ?_
        rintro e w10 ⟨rfl, hf10⟩
        have hf := HF9.out.trans hf10
        have HF10 := Lib.hid hf
        obtain ⟨Ar, cr, hbr, hr1, hr2, hor⟩ := HS8.out.two.no hf
        have hone : ChS w10 p m S' := HS8.out.one.no hf
        have hF8 : Fr (fun k => k = m ∨ k = q) wr w10 := HS8.out.fr.trans (hf.mono fun _ _ h => False.elim h)
        have hnc := (HCL.out _ hF8).2.2.1
        have hqc := hbr.cell 0
        simp only [List.getElem?_toArray, List.getElem?_cons_zero] at hqc
        have HCX : Hid (∀ W, Fr No w10 W → (Fr No w10 W ∧ W.cell? ⟨q, 0, none⟩ = some (.slice Ar S'.length cr) ∧ W.cell? ⟨(ad.add (i * 3)).block, (ad.add (i * 3)).off + 1, none⟩ = some (.string o.name))) := fun W hW =>
          ⟨hW, hW.cell_some hqc (fun h => h), hW.cell_some hnc (fun h => h)⟩
        have HALL : Hid (∀ W, Fr No w10 W → Calls Try.prog 16 #[.pointer (some ⟨p, 0, none⟩)] W fun e w' => ∃ A c, e = .returned (.slice A S'.length c) ∧ Rd w' (fun _ => True) 4 A S'.length (acs S') ∧ Fr No W w') := fun W hW => by
          refine (all_any p m S' W (hone.no hW) HI6.out.nm HI6.out.len).mono ?_
          rintro e w' ⟨v, rfl, ho, hf, _⟩
          obtain ⟨A, c, rfl, _, _⟩ := ho.form
          exact ⟨A, c, rfl, ho.rd.more fun _ _ => trivial, fr_at_none hf⟩
        have HSM : Hid (∀ W A c, Fr No w10 W → Rd W (fun _ => True) 4 A S'.length (acs S') → Calls Try.prog 15 #[.slice A S'.length c, .slice Ar S'.length cr] W fun e w' => e = .returned (.bool true) ∧ Fr No W w') := fun W A c hW hR => by
          have h := sameA_any _ _ A Ar c cr S' S' W hR (hor.rd.fr (by omega) hW (fun _ _ _ h => h)) (by have := HI6.out.len; omega)
          rw [decide_eq_true rfl] at h
          exact h.mono fun e w' ⟨h1, j, h2⟩ => ⟨h1, by rw [h2]; exact (Fr.refl _ _).drewN j⟩
        obtain ⟨b, hb⟩ : ∃ b, nameB o.name.data.toList = b := ⟨_, rfl⟩
        have HN1 : Hid (∀ W, Calls Try.prog 17 #[.string o.name] W fun e w' => e = .returned (.bool b) ∧ Fr No W w') := fun W => by
          rw [← hb]
          exact (name_any o.name W HOK.out.2.2).mono fun e w' h => ⟨h.1, Fr.of_below h.2 _⟩
        have HN2 : Hid (∀ W, Calls Try.prog 18 #[.string o.name] W fun e w' => e = .returned (.bool b) ∧ Fr No W w') := fun W => by
          rw [← hb]
          exact (refname_any o.name W HOK.out.2.2).mono fun e w' h => ⟨h.1, by rw [← h.2]; exact Fr.refl _ _⟩
        have hdd : Fr No w10 w10.drew := (Fr.refl _ _).drew
        have HNEXT : Hid (∀ W, Fr No w10 W → PlB p m q S' w2 W) := fun W hW => ⟨(HS8.out.one.no hf).no hW, (HS8.out.two.no hf).no hW, HFR.out.trans (hF8.trans (hW.mono fun _ _ h => False.elim h))⟩
        clear hf10 hf hbr hor hone hF8 hnc hqc hb HS8 HF9 HF10 HT HT2
        go_upto_region 11 with (fail)
        go_cut [5, 84] (fun a5 a84 wx => (a5 = .int .i64 i ∧ a84 = .bool false) ∧ Fr No w10 wx)
        case first =>
          go_wp2
          go_region_held3 (fun W => Fr No w10 W ∧ W.cell? ⟨q, 0, none⟩ = some (.slice Ar S'.length cr) ∧ W.cell? ⟨(ad.add (i * 3)).block, (ad.add (i * 3)).off + 1, none⟩ = some (.string o.name))
            (exact HCX.out _ (by assumption))
            (first
              | (go_at_call 16; (with_reducible refine (HALL.out _ (by first | assumption | (go_split_ands; assumption))).mono ?_); rintro e w11 ⟨A11, c11, rfl, hr11, hf11⟩; have hg11 := (fun h => Fr.trans (S := No) (a := w10) h hf11) (by first | assumption | (go_split_ands; assumption)))
              | (go_at_call 15; (with_reducible refine (HSM.out _ _ _ (by first | assumption | (go_split_ands; assumption)) hr11).mono ?_); rintro e w12 ⟨rfl, hf12⟩; have hg12 := (fun h => Fr.trans (S := No) (a := w10) h hf12) (by first | assumption | (go_split_ands; assumption)))
              | (go_at_call 17; (with_reducible refine (HN1.out _).mono ?_); rintro e w13 ⟨rfl, hf13⟩; have hg13 := (fun h => Fr.trans (S := No) (a := w10) h hf13) (by first | assumption | (go_split_ands; assumption)))
              | (go_at_call 18; (with_reducible refine (HN2.out _).mono ?_); rintro e w14 ⟨rfl, hf14⟩; have hg14 := (fun h => Fr.trans (S := No) (a := w10) h hf14) (by first | assumption | (go_split_ands; assumption))))
          all_goals
            go_wp2
            go_meet
            exact ⟨⟨rfl, rfl⟩, by assumption⟩
        case rest =>
          obtain ⟨⟨rfl, rfl⟩, hfe⟩ := hcut
          have HPB := Lib.hid (HNEXT.out _ hfe)
          go_wp2
          go_roundw
          case rel => exact ⟨i + 1, S', by omega, by go_num, HI6.out, HPB.out⟩
          case measure => simp [intOf]; omega
    · obtain rfl : i = n := by omega
      have HF := Lib.hid hst.fr
      clear hst hIS
      go_wp2
      go_ret
      exact ⟨rfl, below_fr HB3.out HF.out HB3.out.size (fun k hk => by rcases hk with rfl | rfl <;> omega)⟩
end Go.Proofs.Ytneelnfcjmbboaa
