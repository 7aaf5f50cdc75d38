/- HoldPlays holds: what holds answer, which there are, and what accounts have, is what the document says, in whatever row, of any sums. No condition. -/
import Derived.Test.YtcjdkifojkjjeaaGreatHoldR2
import Derived.Test.YtcjdkifojkjjeaaGreatVouR3
import Derived.Test.YtcjdkifojkjjeaaGreatHoldR3
import Derived.Test.YtcjdkifojkjjeaaGreatChartD
import Derived.Deep.RegionHeld3
import Derived.Deep.CutBlock
import Derived.Deep.DeepCutAuto
import Derived.Test.YtcjdkifojkjjeaaGreatRows
import Derived.Test.YtcjdkifojkjjeaaGreatOpen
namespace Go.Proofs.YtcjdkifojkjjeaaGreat
open Go.RowKit Go.My Go.Maps
set_option linter.unusedSimpArgs false
set_option linter.unusedVariables false
attribute [local go_sem ↓] Go.wp_at_zero Go.wp_at_succ

theorem refmakeT_any (q : Nat) (S : List Ac) (a b : ByteArray) (x : Int) (w : World) (h : RfS w q S) (hI : Inv S) (ha : a.size ≤ maxLen) (hb : b.size ≤ maxLen) (hx : 0 < x ∧ x ≤ 9223372036854775807) :
    Calls Tryz.prog 49 #[.pointer (some ⟨q, 0, none⟩), .slice (some ⟨w.heap.size, 0, none⟩) 2 2] (w.alloc (.cells #[.string a, .int .i64 (-x), .string b, .int .i64 x] 85)) (DeedsR q (checkE S (legsT a b x)) (makeS S (legsT a b x)) (w.alloc (.cells #[.string a, .int .i64 (-x), .string b, .int .i64 x] 85))) := by
  have hbk := Blk.new w 85 #[.string a, .int .i64 (-x), .string b, .int .i64 x]
  have hql := h.lt
  refine refmake_any q S (fun k => k = w.heap.size) _ 2 [.string a, .int .i64 (-x), .string b, .int .i64 x] (legsT a b x) _ (h.no ((Fr.refl _ _).alloc _)) hI ⟨rfl, fun _ => ⟨_, rfl, rfl, fun j u hu => ?_⟩⟩ (fun k hk => ?_) ⟨rfl, fun i g hg => ?_⟩ (by simp [legsT])
  · rw [add_zero, hbk.cell j]
    simpa using hu
  · subst hk
    exact ⟨by simp, by omega⟩
  · have hlt : i < 2 := by have := (List.getElem?_eq_some_iff.1 hg).1; simpa [legsT] using this
    match i, hlt with
    | 0, _ =>
      simp only [legsT, List.getElem?_cons_zero, Option.some.injEq] at hg
      subst hg
      exact ⟨rfl, ha, by unfold In64; simp only; omega⟩
    | 1, _ =>
      simp only [legsT, List.getElem?_cons_succ, List.getElem?_cons_zero, Option.some.injEq] at hg
      subst hg
      exact ⟨rfl, hb, by unfold In64; simp only; omega⟩
set_option maxRecDepth 100000 in
set_option maxHeartbeats 2000000 in
theorem rtake_any (q r : Nat) (S : List Ac) (H : List Hd) (s b : ByteArray) (n x : Int) (w : World) (hc : RfS w q S) (hI : Inv S) (hh : RfH w r H) (hr : RiseH H) (hP : PosH H) (hH : H.length < 1000) (hs : s.size ≤ maxLen) (hb : b.size ≤ maxLen) (hx : In64 x) :
    Calls Tryz.prog 27 #[.pointer (some ⟨r, 0, none⟩), .pointer (some ⟨q, 0, none⟩), .string s, .int .i64 n, .string b, .int .i64 x] w (RRet q r (takeE S H s n b x) (takeSS S H s n b x) (takeHH S H s n b x) w) := by
  have HNO : Hid (∀ W, Fr No w W → RfS W q S ∧ RfH W r H ∧ Fr (At2 q r) w W) := fun W hW => ⟨hc.no hW, hh.no hW, hW.mono fun _ _ h => False.elim h⟩
  have HERR : Hid (∀ W k, Fr No w W → takeE S H s n b x = k → k ≠ 0 → RRet q r (takeE S H s n b x) (takeSS S H s n b x) (takeHH S H s n b x) w (.returned (.int .i64 k)) W) := fun W k h3 h4 h5 => by
    rw [← h4] at h5 ⊢
    refine ⟨rfl, ?_, ?_, (HNO.out W h3).2.2⟩
    · unfold takeSS; rw [if_neg h5]; exact (HNO.out W h3).1
    · unfold takeHH; rw [if_neg h5]; exact (HNO.out W h3).2.1
  have HAT := Lib.hid (rat_any r H s n w hh hH)
  have hqs := hc.lt
  have hrs := hh.lt
  obtain ⟨A, c, hbr, h1, h2, ho⟩ := hh
  have c0 := hbr.cell 0
  simp only [List.getElem?_toArray, List.getElem?_cons_zero] at c0
  have HO := Lib.hid ho.rd
  clear hbr ho
  have HC := Lib.hid hc
  obtain ⟨B, cB, hbq, g1, g2, hoq⟩ := hc
  have b0 := hbq.cell 0
  simp only [List.getElem?_toArray, List.getElem?_cons_zero] at b0
  have HD : Hid (RfS (w.alloc (.cells #[.slice B S.length cB] 49)) w.heap.size S) := rfs_mk rfl (Blk.new w 49 #[.slice B S.length cB]) g1 g2 (hoq.alloc _)
  have HI := Lib.hid hI
  have HS := Lib.hid hs
  have HBZ := Lib.hid hb
  clear hbq hoq hI hs hb
  go_enter Tryz.func27, Tryz.ntmps27
  go_wp2_with fail
  refine HAT.out.mono ?_
  rintro e wA ⟨z, rfl, hz, rfl⟩
  rcases hz with ⟨hg, rfl⟩ | ⟨k, hk, rfl, e1, e2, hg⟩
  · have HE : Hid (takeE S H s n b x = 6) := by show _ = _; unfold takeE; rw [hg]
    clear hg
    go_wp2
    go_ret
    exact HERR.out _ 6 (Fr.refl _ _) HE.out (by decide)
  · have hpos := hP H[k] (List.getElem_mem hk)
    have HE0 : Hid (takeE S H s n b x = if x < 1 ∨ H[k].sum < x then 13 else if asdE S s.data.toList (-H[k].sum) = 0 then checkE (asdS S s.data.toList (-H[k].sum)) (legsT s b x) else asdE S s.data.toList (-H[k].sum)) := by show _ = _; unfold takeE; rw [hg]
    have HE2 : Hid (takeE S H s n b x = 0 → takeSS S H s n b x = makeS (asdS S s.data.toList (-H[k].sum)) (legsT s b x)) := fun h => by unfold takeSS; rw [if_pos h, hg]; rfl
    have HE3 : Hid (takeE S H s n b x = 0 → takeHH S H s n b x = H.take k ++ H.drop (k + 1)) := fun h => by unfold takeHH; rw [if_pos h]; exact del_atH hr hk e1 e2
    have HCUT := Lib.hid (fun W (hW : RfH W r H) => rcut_any r H k W hW hk hH)
    obtain ⟨ad, rfl, _, _, _, p2⟩ := hd_at HO.out k hk
    have hpt : 0 < H[k].sum ∧ H[k].sum ≤ 9223372036854775807 := ⟨hpos.2.2.1, hpos.2.2.2.1⟩
    have hk0 : ¬ (k : Int) < 0 := by omega
    clear hg e1 e2 hpos hP hr
    generalize H[k].sum = t at *
    by_cases hx1 : x < 1
    · have HE : Hid (takeE S H s n b x = 13) := by show _ = _; rw [HE0.out, if_pos (.inl hx1)]
      go_wp2
      go_ret
      exact HERR.out _ 13 (Fr.refl _ _) HE.out (by decide)
    by_cases hx2 : t < x
    · have HE : Hid (takeE S H s n b x = 13) := by show _ = _; rw [HE0.out, if_pos (.inr hx2)]
      go_wp2
      go_ret
      exact HERR.out _ 13 (Fr.refl _ _) HE.out (by decide)
    have HE1 : Hid (takeE S H s n b x = if asdE S s.data.toList (-t) = 0 then checkE (asdS S s.data.toList (-t)) (legsT s b x) else asdE S s.data.toList (-t)) := by show _ = _; rw [HE0.out, if_neg (by omega)]
    clear HE0
    have HAS : Hid (Calls Tryz.prog 48 #[.pointer (some ⟨w.heap.size, 0, none⟩), .string s, .int .i64 (-t)] (w.alloc (.cells #[.slice B S.length cB] 49)) (DeedsR w.heap.size (asdE S s.data.toList (-t)) (asdS S s.data.toList (-t)) (w.alloc (.cells #[.slice B S.length cB] 49)))) := refaside_any w.heap.size S s (-t) _ HD.out HI.out (in_neg hpt)
    have hwt : wrap64 (-t) = -t := IntWalk.wrap64_in _ ⟨by omega, by omega⟩
    have hwx : wrap64 (-x) = -x := IntWalk.wrap64_in _ ⟨by omega, by omega⟩
    have ca := fun o => ((Fr.refl No w).alloc o).cell_some c0 (fun h => h)
    have pa := fun o => ((Fr.refl No w).alloc o).cell_some p2 (fun h => h)
    have HI1 := Lib.hid (inv_aside HI.out s.data.toList (-t))
    have hxp : 0 < x ∧ x ≤ 9223372036854775807 := ⟨by omega, by omega⟩
    go_wp2_with fail
    refine HAS.out.mono ?_
    rintro e w2 ⟨rfl, hd2, hf2⟩
    have HF2 : Hid (Fr No w w2) := ((Fr.refl No w).alloc _).trans' hf2 (fun i hi hlt => absurd hlt (by have h : i = w.heap.size := hi; omega))
    have HD2 := Lib.hid hd2
    have hs2 : w.heap.size ≤ w2.heap.size := HF2.out.size
    clear hd2 hf2 ca pa p2 c0 b0 HD
    by_cases h0 : asdE S s.data.toList (-t) = 0
    · have HE : Hid (takeE S H s n b x = checkE (asdS S s.data.toList (-t)) (legsT s b x)) := by show _ = _; rw [HE1.out, if_pos h0]
      rw [h0]
      have HMK := Lib.hid (refmakeT_any w.heap.size (asdS S s.data.toList (-t)) s b x w2 HD2.out HI1.out HS.out HBZ.out hxp)
      clear h0
      generalize asdS S s.data.toList (-t) = S1 at *
      go_wp2_with fail
      refine HMK.out.mono ?_
      rintro e w3 ⟨rfl, hd3, hf3⟩
      have HF3 : Hid (Fr No w w3) := (HF2.out.alloc _).trans' hf3 (fun i hi hlt => absurd hlt (by have h : i = w.heap.size := hi; omega))
      have HD3 := Lib.hid hd3
      clear hd3 hf3
      by_cases h3 : checkE S1 (legsT s b x) = 0
      · have HP : Hid (takeE S H s n b x = 0) := by show _ = _; rw [HE.out, h3]
        rw [h3]
        clear h3
        obtain ⟨hc3, hh3, hfr3⟩ := HNO.out w3 HF3.out
        have HH3 := Lib.hid hh3
        have HFR3 := Lib.hid hfr3
        have hE2 := HE2.out HP.out
        have HE2' := Lib.hid hE2
        obtain ⟨D, cD, hbd, e1, e2, hod⟩ := HD3.out
        obtain ⟨B3, c3, hbq, _, _, _⟩ := hc3
        have q0 := hbq.cell 0
        have y0 := hbq.frozen 0
        have d0 := hbd.cell 0
        simp only [List.getElem?_toArray, List.getElem?_cons_zero] at q0 d0
        have HBQ := Lib.hid hbq
        have HOD := Lib.hid hod
        generalize makeS S1 (legsT s b x) = S2 at *
        have HST : Hid (Fr (At1 q) w3 (w3.setCell ⟨q, 0, none⟩ (.slice D S2.length cD))) := Fr.setCell (S := At1 q) (p := ⟨q, 0, none⟩) (Fr.refl _ _) (fun _ => rfl) _
        have HH4 := Lib.hid (HH3.out.chart HBQ.out HST.out)
        have HC4 : Hid (RfS (w3.setCell ⟨q, 0, none⟩ (.slice D S2.length cD)) q S2) := rfs_mk rfl (HBQ.out.set_ 0 _) e1 e2 (HOD.out.setCell (p := ⟨q, 0, none⟩) (HOD.out.ne_ HBQ.out (by decide)) _)
        clear hh3 hfr3 hbd hbq hod hE2
        go_wp2_with fail
        refine (HCUT.out _ HH4.out).mono ?_
        rintro e w5 ⟨rfl, hh5, hf5⟩
        have HH5 := Lib.hid hh5
        have HF5 := Lib.hid hf5
        obtain ⟨cs, hbr⟩ := HH4.out.blk
        have HC5 := Lib.hid (HC4.out.holds hbr hf5)
        clear hh5 hf5 hbr
        go_wp2
        go_ret
        refine ⟨by rw [HP.out]; rfl, ?_, ?_, ?_⟩
        · rw [HE2'.out]; exact HC5.out
        · rw [HE3.out HP.out]; exact HH5.out
        · exact (HFR3.out.trans (HST.out.mono fun _ _ h => .inl h)).trans (HF5.out.mono fun _ _ h => .inr h)
      · have HNZ := Lib.hid h3
        have hz : (checkE S1 (legsT s b x) == 0) = false := beq_eq_false_iff_ne.2 h3
        have hz2 : (checkE S1 (legsT s b x) != 0) = true := bne_iff_ne.2 h3
        generalize checkE S1 (legsT s b x) = ev at *
        clear h3
        go_wp2
        go_ret
        exact HERR.out _ ev HF3.out HE.out HNZ.out
    · have HE : Hid (takeE S H s n b x = asdE S s.data.toList (-t)) := by show _ = _; rw [HE1.out, if_neg h0]
      have HNZ := Lib.hid h0
      have hz : (asdE S s.data.toList (-t) == 0) = false := beq_eq_false_iff_ne.2 h0
      have hz2 : (asdE S s.data.toList (-t) != 0) = true := bne_iff_ne.2 h0
      generalize asdE S s.data.toList (-t) = ev at *
      clear h0
      go_wp2
      go_ret
      exact HERR.out _ ev HF2.out HE.out HNZ.out
end Go.Proofs.YtcjdkifojkjjeaaGreat

namespace Go.Proofs.YtcjdkifojkjjeaaGreat
open Go.RowKit Go.My Go.Maps
set_option linter.unusedSimpArgs false
set_option linter.unusedVariables false
attribute [local go_sem ↓] Go.wp_at_zero Go.wp_at_succ

set_option maxRecDepth 100000 in
set_option maxHeartbeats 2000000 in
/-- a step, of the document's own, whatever it is done to -/
theorem doesR8_gen (h c : Value) (o : OpH) (w : World) (n : Int) (Q : World → Prop)
    (h0 : kindH o.kind = 0 → ∀ W, Fr No w W → Calls Tryz.prog 26 #[h, c, .agg #[.int .i64 o.num, .string o.acct, .int .i64 o.sum]] W fun e w' => e = .returned (.int .i64 n) ∧ Q w')
    (h1 : kindH o.kind = 1 → ∀ W, Fr No w W → Calls Tryz.prog 27 #[h, c, .string o.acct, .int .i64 o.num, .string o.peer, .int .i64 o.sum] W fun e w' => e = .returned (.int .i64 n) ∧ Q w')
    (h2 : kindH o.kind = 2 → ∀ W, Fr No w W → Calls Tryz.prog 28 #[h, c, .string o.acct, .int .i64 o.num] W fun e w' => e = .returned (.int .i64 n) ∧ Q w')
    (h3 : kindH o.kind = 3 → ∀ W, Fr No w W → Calls Tryz.prog 23 #[c, .string o.acct, .int .i64 o.sum] W fun e w' => e = .returned (.int .i64 n) ∧ Q w') :
    Calls Tryz.prog 9 #[h, c, o.val] w fun e w' => e = .returned (.int .i64 n) ∧ Q w' := by
  have HK := Lib.hid fun W => kindH_any o W
  obtain ⟨k, nn, s, t, x⟩ := o
  have H0 := Lib.hid h0
  have H1 := Lib.hid h1
  have H2 := Lib.hid h2
  have H3 := Lib.hid h3
  have hbd := kindH_bd k
  unfold OpH.val
  simp only at *
  clear h0 h1 h2 h3
  have hbx := Blk.new w 38 #[.int .i64 k, .int .i64 nn, .string s, .string t, .int .i64 x]
  have hfx : Fr No w (w.alloc (.cells #[.int .i64 k, .int .i64 nn, .string s, .string t, .int .i64 x] 38)) := (Fr.refl _ _).alloc _
  go_enter Tryz.func9, Tryz.ntmps9
  go_wp2_with fail
  refine (HK.out _).mono ?_
  rintro e w2 ⟨rfl, hf2⟩
  have hbx2 := hbx.fr hf2 (fun h => h)
  have HF := Lib.hid (hfx.trans hf2)
  have c0 := hbx2.cell 0
  have c1 := hbx2.cell 1
  have c2 := hbx2.cell 2
  have c3 := hbx2.cell 3
  have c4 := hbx2.cell 4
  simp only [List.getElem?_toArray, List.getElem?_cons_zero, List.getElem?_cons_succ] at c0 c1 c2 c3 c4
  clear hbx hfx hf2 hbx2
  rcases hbd with hk | hk | hk | hk
  · have HH := Lib.hid (H0.out hk _ HF.out)
    rw [hk]
    clear hk H0 H1 H2 H3 HF
    go_wp2_with (go_at_call 26; refine HH.out.mono ?_; rintro e w3 ⟨rfl, hq⟩)
    go_ret
    exact ⟨rfl, hq⟩
  · have HH := Lib.hid (H1.out hk _ HF.out)
    rw [hk]
    clear hk H0 H1 H2 H3 HF
    go_wp2_with (go_at_call 27; refine HH.out.mono ?_; rintro e w3 ⟨rfl, hq⟩)
    go_ret
    exact ⟨rfl, hq⟩
  · have HH := Lib.hid (H2.out hk _ HF.out)
    rw [hk]
    clear hk H0 H1 H2 H3 HF
    go_wp2_with (go_at_call 28; refine HH.out.mono ?_; rintro e w3 ⟨rfl, hq⟩)
    go_ret
    exact ⟨rfl, hq⟩
  · have HH := Lib.hid (H3.out hk _ HF.out)
    rw [hk]
    clear hk H0 H1 H2 H3 HF
    go_wp2_with (go_at_call 23; refine HH.out.mono ?_; rintro e w3 ⟨rfl, hq⟩)
    go_ret
    exact ⟨rfl, hq⟩
def SameHRel (L : List Hd) (w : World) (i : Value) (wr : World) : Prop := ∃ k j : Nat, k ≤ L.length ∧ i = .int .i64 k ∧ wr = w.drewN j
set_option maxRecDepth 100000 in
set_option maxHeartbeats 1000000 in
theorem sameH_any (F G : Nat → Prop) (A B : Option Addr) (c d : Nat) (L : List Hd) (w : World) (hl : Rd w F 3 A L.length (hds L)) (hr : Rd w G 3 B L.length (hds L)) (hsz : L.length < 1000000) :
    Calls Tryz.prog 10 #[.slice A L.length c, .slice B L.length d] w fun e w' => e = .returned (.bool true) ∧ ∃ n, w' = w.drewN n := by
  have HA := Lib.hid hl
  have HB := Lib.hid hr
  clear hl hr
  go_enter Tryz.func10, Tryz.ntmps10
  go_wp2
  go_loopw [5] (fun a wr => SameHRel L w a wr) (fun a _ => L.length - (intOf a).toNat)
  case atStart => exact ⟨0, 0, Nat.zero_le _, rfl, rfl⟩
  case round =>
    obtain ⟨k, j, hk, rfl, rfl⟩ := hrel
    by_cases hlt : k < L.length
    · obtain ⟨ad, rfl, _, p0, p1, p2⟩ := hd_at HA.out k hlt
      obtain ⟨bd, rfl, _, q0, q1, q2⟩ := hd_at HB.out k hlt
      generalize L[k] = y at *
      obtain ⟨yn, ya, ys⟩ := y
      simp only at p0 p1 p2 q0 q1 q2
      generalize ya.toArray = na at *
      go_wp2
      go_quiet (fail)
      go_wp2
      go_roundw
      case rel => exact ⟨k + 1, _, by omega, by go_num, rfl⟩
      case measure => simp [intOf]; omega
    · have : k = L.length := by omega
      subst this
      go_wp2
      go_ret
      exact ⟨rfl, _, rfl⟩
end Go.Proofs.YtcjdkifojkjjeaaGreat

namespace Go.Proofs.YtcjdkifojkjjeaaGreat
open Go.RowKit Go.My Go.Maps
set_option linter.unusedSimpArgs false
set_option linter.unusedVariables false

def StR (q r : Nat) (S : List Ac) (H : List Hd) (w : World) (W : World) : Prop := RfS W q S ∧ RfH W r H ∧ Fr (At2 q r) w W
theorem refdoesH_any (q r : Nat) (S : List Ac) (H : List Hd) (o : OpH) (w : World) (hc : RfS w q S) (hS : St S H) (hh : RfH w r H) (hH : H.length < 1000) (ho : o.ok) :
    Calls Tryz.prog 9 #[.pointer (some ⟨r, 0, none⟩), .pointer (some ⟨q, 0, none⟩), o.val] w fun e w' => e = .returned (.int .i64 (doesHE S H o)) ∧ StR q r (doesHS S H o) (doesHH S H o) w w' := by
  refine doesR8_gen _ _ o w _ _ (fun hk W hW => ?_) (fun hk W hW => ?_) (fun hk W hW => ?_) (fun hk W hW => ?_)
  · unfold doesHE doesHS doesHH
    rw [hk]
    simp only [if_true]
    exact (rput_any q r S H o.acct o.num o.sum W (hc.no hW) hS.kp.inv (hh.no hW) hS.rise hS.pos hH ho.2.2.1 ho.2.2.2.2).mono fun e w' h => ⟨h.1, h.2.1, h.2.2.1, (no2 hW).trans h.2.2.2⟩
  · unfold doesHE doesHS doesHH
    rw [hk]
    simp only [show ¬ ((1 : Int) = 0) by decide, if_false, if_true]
    exact (rtake_any q r S H o.acct o.peer o.num o.sum W (hc.no hW) hS.kp.inv (hh.no hW) hS.rise hS.pos hH ho.2.2.1 ho.2.2.2.1 ho.2.2.2.2).mono fun e w' h => ⟨h.1, h.2.1, h.2.2.1, (no2 hW).trans h.2.2.2⟩
  · unfold doesHE doesHS doesHH
    rw [hk]
    simp only [show ¬ ((2 : Int) = 0) by decide, show ¬ ((2 : Int) = 1) by decide, if_false, if_true]
    exact (rfree_any q r S H o.acct o.num W (hc.no hW) hS.kp.inv (hh.no hW) hS.rise hS.pos hH).mono fun e w' h => ⟨h.1, h.2.1, h.2.2.1, (no2 hW).trans h.2.2.2⟩
  · unfold doesHE doesHS doesHH
    rw [hk]
    simp only [show ¬ ((3 : Int) = 0) by decide, show ¬ ((3 : Int) = 1) by decide, show ¬ ((3 : Int) = 2) by decide, if_false]
    obtain ⟨cs, hb⟩ := (hc.no hW).blk
    exact (refgive_any q S o.acct o.sum W (hc.no hW) hS.kp.inv ho.2.2.2.2).mono fun e w' h => ⟨h.1, h.2.1, (hh.no hW).chart hb h.2.2, (no2 hW).trans (h.2.2.mono fun _ _ h => .inl h)⟩
end Go.Proofs.YtcjdkifojkjjeaaGreat

namespace Go.Proofs.YtcjdkifojkjjeaaGreat
open Go.RowKit Go.My Go.Maps
set_option linter.unusedSimpArgs false
set_option linter.unusedVariables false

def FF (m mh q r : Nat) : Nat → Prop := fun k => k = m ∨ k = mh ∨ k = q ∨ k = r
/-- both charts, and both holds -/
structure Bo (p m ph mh q r : Nat) (S S2 : List Ac) (H H2 : List Hd) (w W : World) : Prop where
  one : ChS W p m S
  hd : HdS W ph mh H
  two : RfS W q S2
  rd : RfH W r H2
  fr : Fr (FF m mh q r) w W
theorem Bo.no {p m ph mh q r : Nat} {S S2 : List Ac} {H H2 : List Hd} {w W W' : World} (h : Bo p m ph mh q r S S2 H H2 w W) (hf : Fr No W W') : Bo p m ph mh q r S S2 H H2 w W' :=
  ⟨h.one.no hf, h.hd.no hf, h.two.no hf, h.rd.no hf, h.fr.trans (hf.mono fun _ _ h => False.elim h)⟩
theorem bo_does {p m ph mh q r : Nat} {S : List Ac} {H : List Hd} {w : World} (o : OpH) (hst : St S H) (hH : H.length < 1000) (hne : mh ≠ m) (ho : o.ok) (W : World) (h : Bo p m ph mh q r S S H H w W) :
    Calls Tryz.prog 8 #[.pointer (some ⟨ph, 0, none⟩), .pointer (some ⟨p, 0, none⟩), o.val] W fun e w' => e = .returned (.int .i64 (doesHE S H o)) ∧ Bo p m ph mh q r (doesHS S H o) S (doesHH S H o) H w w' := by
  refine (doesH_any p m ph mh S H o W h.one hst h.hd hH hne ho).mono ?_
  rintro e w' ⟨h1, hc, hh, hf⟩
  obtain ⟨cq, hbq⟩ := h.two.blk
  obtain ⟨cr, hbr⟩ := h.rd.blk
  refine ⟨h1, hc, hh, h.two.fr hf (fun e => ?_) (fun k hk cur hb => ?_), h.rd.fr hf (fun e => ?_) (fun k hk cur hb => ?_), h.fr.trans (hf.mono fun _ _ hk => ?_)⟩
  · rcases e with e | e
    · exact h.one.2.ne_ hbq e.symm
    · exact h.hd.2.ne_ hbq e.symm
  · rcases hk with e | e
    · exact h.one.2.ne_ hb e.symm
    · exact h.hd.2.ne_ hb e.symm
  · rcases e with e | e
    · exact h.one.2.ne_ hbr e.symm
    · exact h.hd.2.ne_ hbr e.symm
  · rcases hk with e | e
    · exact h.one.2.ne_ hb e.symm
    · exact h.hd.2.ne_ hb e.symm
  · rcases hk with e | e
    · exact .inl e
    · exact .inr (.inl e)
theorem bo_ref {p m ph mh q r : Nat} {S S' : List Ac} {H H' : List Hd} {w : World} (o : OpH) (hst : St S H) (hH : H.length < 1000) (ho : o.ok) (W : World) (h : Bo p m ph mh q r S' S H' H w W) :
    Calls Tryz.prog 9 #[.pointer (some ⟨r, 0, none⟩), .pointer (some ⟨q, 0, none⟩), o.val] W fun e w' => e = .returned (.int .i64 (doesHE S H o)) ∧ Bo p m ph mh q r S' (doesHS S H o) H' (doesHH S H o) w w' := by
  refine (refdoesH_any q r S H o W h.two hst h.rd hH ho).mono ?_
  rintro e w' ⟨h1, hc, hh, hf⟩
  obtain ⟨cq, hbq⟩ := h.two.blk
  obtain ⟨cr, hbr⟩ := h.rd.blk
  refine ⟨h1, h.one.fr hf (fun e => ?_) (fun e => ?_), h.hd.fr hf (fun e => ?_) (fun e => ?_), hc, hh, h.fr.trans (hf.mono fun _ _ hk => ?_)⟩
  · rcases e with e | e
    · exact Blk.ne_ h.one.1 hbq (by decide) e
    · exact Blk.ne_ h.one.1 hbr (by decide) e
  · rcases e with e | e
    · exact h.one.2.ne_ hbq e
    · exact h.one.2.ne_ hbr e
  · rcases e with e | e
    · exact Blk.ne_ h.hd.1 hbq (by decide) e
    · exact Blk.ne_ h.hd.1 hbr (by decide) e
  · rcases e with e | e
    · exact h.hd.2.ne_ hbq e
    · exact h.hd.2.ne_ hbr e
  · rcases hk with e | e
    · exact .inr (.inr (.inl e))
    · exact .inr (.inr (.inr e))
theorem allH_then {ph mh : Nat} {H : List Hd} (hH : H.length < 1000) (W : World) (h : HdS W ph mh H) :
    Calls Tryz.prog 11 #[.pointer (some ⟨ph, 0, none⟩)] W fun e w' => ∃ A c, e = .returned (.slice A H.length c) ∧ Rd w' (fun _ => True) 3 A H.length (hds H) ∧ Fr No W w' := by
  refine (allH_any ph mh H W h (by omega)).mono ?_
  rintro e w' ⟨v, rfl, ho, hf, _⟩
  obtain ⟨A, c, rfl, _, _⟩ := ho.form
  exact ⟨A, c, rfl, ho.rd.more fun _ _ => trivial, fr_at_none hf⟩
theorem ofH_then {ph mh : Nat} {H : List Hd} (hH : H.length < 1000) (s : ByteArray) (W : World) (h : HdS W ph mh H) :
    Calls Tryz.prog 12 #[.pointer (some ⟨ph, 0, none⟩), .string s] W fun e w' => ∃ A c, e = .returned (.slice A (ofH H s.data.toList).length c) ∧ Rd w' (fun _ => True) 3 A (ofH H s.data.toList).length (hds (ofH H s.data.toList)) ∧ Fr No W w' := by
  refine (ofH_any ph mh H s W h (by omega)).mono ?_
  rintro e w' ⟨v, rfl, ho, hf, _⟩
  obtain ⟨A, c, rfl, _, _⟩ := ho.form
  exact ⟨A, c, rfl, ho.rd.more fun _ _ => trivial, fr_at_none hf⟩
theorem rofH_then {r : Nat} {H : List Hd} (hH : H.length < 1000) (s : ByteArray) (W : World) (h : RfH W r H) :
    Calls Tryz.prog 13 #[.pointer (some ⟨r, 0, none⟩), .string s] W fun e w' => ∃ A c, e = .returned (.slice A (ofH H s.data.toList).length c) ∧ Rd w' (fun _ => True) 3 A (ofH H s.data.toList).length (hds (ofH H s.data.toList)) ∧ Fr No W w' := by
  refine (rof_any r H s W h hH).mono ?_
  rintro e w' ⟨v, rfl, ho, hf, _⟩
  obtain ⟨A, c, rfl, _, _⟩ := ho.form
  exact ⟨A, c, rfl, ho.rd.more fun _ _ => trivial, fr_at_none hf⟩
theorem sameH_then {L : List Hd} (hL : L.length < 1000) (W : World) (A B : Option Addr) (c d : Nat) (F G : Nat → Prop) (h1 : Rd W F 3 A L.length (hds L)) (h2 : Rd W G 3 B L.length (hds L)) :
    Calls Tryz.prog 10 #[.slice A L.length c, .slice B L.length d] W fun e w' => e = .returned (.bool true) ∧ Fr No W w' := by
  refine (sameH_any F G A B c d L W h1 h2 (by omega)).mono ?_
  rintro e w' ⟨h1, j, rfl⟩
  exact ⟨h1, (Fr.refl _ _).drewN j⟩
theorem all8_then {p m : Nat} {U : List Ac} (hI : Inv U) (W : World) (h : ChS W p m U) :
    Calls Tryz.prog 15 #[.pointer (some ⟨p, 0, none⟩)] W fun e w' => ∃ A c, e = .returned (.slice A U.length c) ∧ Rd w' (fun _ => True) 4 A U.length (acs U) ∧ Fr No W w' := by
  refine (all_any p m U W h hI.nm hI.len).mono ?_
  rintro e w' ⟨v, rfl, ho, hf, _⟩
  obtain ⟨A, c, rfl, _, _⟩ := ho.form
  exact ⟨A, c, rfl, ho.rd.more fun _ _ => trivial, fr_at_none hf⟩
theorem same8_then {U : List Ac} (hI : Inv U) (W : World) (A B : Option Addr) (c d : Nat) (F G : Nat → Prop) (h1 : Rd W F 4 A U.length (acs U)) (h2 : Rd W G 4 B U.length (acs U)) :
    Calls Tryz.prog 14 #[.slice A U.length c, .slice B U.length d] W fun e w' => e = .returned (.bool true) ∧ Fr No W w' := by
  have h := sameA_any F G A B c d U U W h1 h2 (by have := hI.len; omega)
  rw [decide_eq_true rfl] at h
  exact h.mono fun e w' ⟨h1, j, h2⟩ => ⟨h1, by rw [h2]; exact (Fr.refl _ _).drewN j⟩
end Go.Proofs.YtcjdkifojkjjeaaGreat

namespace Go.Proofs.YtcjdkifojkjjeaaGreat
open Go.RowKit Go.My Go.Maps
set_option linter.unusedSimpArgs false
set_option linter.unusedVariables false
attribute [local go_sem ↓] Go.wp_at_zero Go.wp_at_succ

theorem wpAnyH_up {P : Program} {md : Region.Mode} {ops : Array Oper} {Q : Exit → Act → World → Prop} {S S' : World → Prop} (hSS : ∀ w, S' w → S w) : ∀ (fuel : Nat) (listed : Array Bool) (a : Act) (w : World), wpAnyH P md ops Q S' fuel listed a w → wpAnyH P md ops Q S fuel listed a w
  | 0, _, _, _, h => h
  | fuel + 1, _, _, _, h => ⟨h.1, fun i hi => wpOp_mono (fun a' w' h' => ⟨hSS _ h'.1, wpAnyH_up hSS fuel _ a' w' h'.2⟩) (h.2 i hi)⟩
def HpRel (w3 : World) (p m ph mh q r : Nat) (n : Nat) (iv : Value) (wr : World) : Prop :=
  ∃ (i : Nat) (S : List Ac) (H : List Hd), i ≤ n ∧ iv = .int .i64 i ∧ St S H ∧ H.length ≤ i ∧ Bo p m ph mh q r S S H H w3 wr
set_option maxRecDepth 100000 in
set_option maxHeartbeats 0 in
theorem holdPlays_walk (A : Option Addr) (c : Nat) (cells : List Value) (l : List OpH) (w : World) (hr : Rd w (Lt w.heap.size) 5 A l.length cells) (hlc : l.length ≤ c) (hcm : c ≤ maxLen) (hE : Each RdOH 5 cells l) :
    Calls Tryz.prog 3 #[.slice A l.length c] w (RetTrue w) := by
  have HR := Lib.hid hr
  have HEA := Lib.hid hE
  have HCM := Lib.hid hcm
  have HLC := Lib.hid hlc
  clear hr hE hcm hlc
  go_enter Tryz.func3, Tryz.ntmps3
  go_wp2_with fail
  refine (lives8 _).mono ?_
  rintro e w1 ⟨rfl, hb1⟩
  go_wp2_with fail
  refine (begin_any _).mono ?_
  rintro e w2 ⟨p, m, q, rfl, hc2, hq2, hf2, hp2, hm2, hqq2⟩
  go_wp2_with fail
  refine (newH_any _).mono ?_
  rintro e w4 ⟨ph, mh, rfl, hh4, hf4, hp4, hm4⟩
  have hml := hc2.2.lt
  have hmh : mh ≠ m := by omega
  have hfa : Fr No w4 (w4.alloc (.cells #[.slice none 0 0] 33)) := (Fr.refl _ _).alloc _
  have hs1 := hb1.size
  have hs2 := hf2.size
  have hs4 := hf4.size
  have HBO : Hid (Bo p m ph mh q w4.heap.size abcS abcS [] [] (w4.alloc (.cells #[.slice none 0 0] 33)) (w4.alloc (.cells #[.slice none 0 0] 33))) :=
    ⟨(hc2.no hf4).no hfa, hh4.no hfa, (hq2.no hf4).no hfa, ⟨none, 0, Blk.new w4 33 #[.slice none 0 0], Nat.le_refl _, Nat.zero_le _, Own.nil _ _ _⟩, Fr.refl _ _⟩
  have HB4 : Hid (Below w.heap.size w (w4.alloc (.cells #[.slice none 0 0] 33))) := below_fr_no (below_fr_no (below_fr_no hb1 hf2 hb1.size) hf4 (by omega)) hfa (by omega)
  have HM : Hid (w.heap.size ≤ m ∧ w.heap.size ≤ mh ∧ w.heap.size ≤ q ∧ w.heap.size ≤ w4.heap.size) := ⟨by omega, by omega, by omega, by omega⟩
  have HRD := Lib.hid (HR.out.below HB4.out fun _ h => h)
  have HSZ : Hid (w.heap.size ≤ (w4.alloc (.cells #[.slice none 0 0] 33)).heap.size) := HB4.out.size
  clear hb1 hc2 hq2 hf2 hp2 hm2 hqq2 hh4 hf4 hp4 hm4 hml hs1 hs2 hs4 HR hfa
  obtain ⟨n, hn, hn2, hEA⟩ : ∃ n, n ≤ l.length ∧ n ≤ 120 ∧ ∀ W, Calls Tryz.prog 7 #[.slice A l.length c] W fun e w' => e = .returned (.slice A n c) ∧ W = w' := ⟨min l.length 120, by omega, by omega, fun W => (earlyH_any _ _ _ _ HLC.out HCM.out).mono fun e w' h => ⟨h.1, h.2.symm⟩⟩
  have HEY := Lib.hid hEA
  clear hEA
  go_wp2_with (go_at_call 7; refine (HEY.out _).mono ?_; rintro e w5 ⟨rfl, rfl⟩)
  generalize w4.heap.size = r at *
  generalize (w4.alloc (.cells #[.slice none 0 0] 33)) = w3 at *
  go_loopw [7] (fun iv wr => HpRel w3 p m ph mh q r n iv wr) (fun iv _ => n - (intOf iv).toNat)
  case atStart => exact ⟨0, abcS, [], Nat.zero_le _, rfl, stB, Nat.le_refl _, HBO.out⟩
  case round =>
    obtain ⟨i, S, H, hi, rfl, hst, hHl, hbo⟩ := hrel
    by_cases hlt : i < n
    · have hil : i < l.length := by omega
      have hFk : ∀ k, Lt w.heap.size k → ¬ FF m mh q r k := fun k hk hs => by
        have hk' : k < w.heap.size := hk
        have := HM.out
        rcases hs with rfl | rfl | rfl | rfl <;> omega
      have hRw : Rd wr (Lt w.heap.size) 5 A l.length cells := HRD.out.fr (by omega) hbo.fr fun k hk _ hs => hFk k hk hs
      obtain ⟨ad, rfl, had, hok, q0, q1, q2, q3, q4⟩ := scrH_at hRw HEA.out i hil hil
      have HCL : Hid (∀ W, Fr (FF m mh q r) wr W → Fr (FF m mh q r) wr W ∧ W.cell? (ad.add (i * 5)) = some (.int .i64 l[i].kind) ∧ W.cell? ⟨(ad.add (i * 5)).block, (ad.add (i * 5)).off + 1, none⟩ = some (.int .i64 l[i].num) ∧
          W.cell? ⟨(ad.add (i * 5)).block, (ad.add (i * 5)).off + 2, none⟩ = some (.string l[i].acct) ∧ W.cell? ⟨(ad.add (i * 5)).block, (ad.add (i * 5)).off + 3, none⟩ = some (.string l[i].peer) ∧
          W.cell? ⟨(ad.add (i * 5)).block, (ad.add (i * 5)).off + 4, none⟩ = some (.int .i64 l[i].sum)) := fun W hW => by
        have hb : ¬ FF m mh q r (ad.add (i * 5)).block := hFk _ (by rw [block_of_add]; exact had)
        exact ⟨hW, hW.cell_some q0 hb, hW.cell_some q1 hb, hW.cell_some q2 hb, hW.cell_some q3 hb, hW.cell_some q4 hb⟩
      generalize l[i] = o at *
      have HOK := Lib.hid hok
      have hH1 : H.length < 1000 := by omega
      have hbw : Bo p m ph mh q r S S H H wr wr.drew := ⟨hbo.one.no (Fr.drew (Fr.refl _ _)), hbo.hd.no (Fr.drew (Fr.refl _ _)), hbo.two.no (Fr.drew (Fr.refl _ _)), hbo.rd.no (Fr.drew (Fr.refl _ _)), Fr.drew (Fr.refl _ _)⟩
      obtain ⟨d1, d2, d3⟩ := hst.does o hok
      have HDO : Hid (∀ W, Bo p m ph mh q r S S H H wr W → Calls Tryz.prog 8 #[.pointer (some ⟨ph, 0, none⟩), .pointer (some ⟨p, 0, none⟩), .agg #[.int .i64 o.kind, .int .i64 o.num, .string o.acct, .string o.peer, .int .i64 o.sum]] W fun e w' => e = .returned (.int .i64 (doesHE S H o)) ∧ Bo p m ph mh q r (doesHS S H o) S (doesHH S H o) H wr w') := fun W hW => bo_does o hst hH1 hmh hok W hW
      have HDR : Hid (∀ W, Bo p m ph mh q r (doesHS S H o) S (doesHH S H o) H wr W → Calls Tryz.prog 9 #[.pointer (some ⟨r, 0, none⟩), .pointer (some ⟨q, 0, none⟩), .agg #[.int .i64 o.kind, .int .i64 o.num, .string o.acct, .string o.peer, .int .i64 o.sum]] W fun e w' => e = .returned (.int .i64 (doesHE S H o)) ∧ Bo p m ph mh q r (doesHS S H o) (doesHS S H o) (doesHH S H o) (doesHH S H o) wr w') := fun W hW => bo_ref o hst hH1 hok W hW
      have HST6 := Lib.hid d1
      have HL6 : Hid ((doesHH S H o).length < 1000 ∧ (doesHH S H o).length ≤ i + 1) := ⟨by omega, by omega⟩
      have HBO1 := Lib.hid hbo
      have HBW := Lib.hid hbw
      generalize doesHE S H o = ev at *
      generalize doesHS S H o = S' at *
      generalize doesHH S H o = H' at *
      have HOL : Hid ((ofH H' o.acct.data.toList).length < 1000) := by
        have h1 : (ofH H' o.acct.data.toList).length ≤ H'.length := List.length_filter_le _ _
        have := HL6.out
        show _ < _
        omega
      have hz0 : ∀ z : Int, (z != z) = false := fun z => by simp
      clear hst hRw had hok d1 d2 d3 hbo hbw hFk hH1 q0 q1 q2 q3 q4
      go_upto_region 9 with (fail)
      go_cut [7, 77] (fun a7 a77 wx => (a7 = .int .i64 i ∧ a77 = .bool false) ∧ Bo p m ph mh q r S' S' H' H' wr wx)
      case first =>
        go_wp2
        refine wp_region_held_drew (S := (fun W => Fr (FF m mh q r) wr W ∧ W.cell? (ad.add (i * 5)) = some (.int .i64 o.kind) ∧ W.cell? ⟨(ad.add (i * 5)).block, (ad.add (i * 5)).off + 1, none⟩ = some (.int .i64 o.num) ∧ W.cell? ⟨(ad.add (i * 5)).block, (ad.add (i * 5)).off + 2, none⟩ = some (.string o.acct) ∧ W.cell? ⟨(ad.add (i * 5)).block, (ad.add (i * 5)).off + 3, none⟩ = some (.string o.peer) ∧ W.cell? ⟨(ad.add (i * 5)).block, (ad.add (i * 5)).off + 4, none⟩ = some (.int .i64 o.sum))) (by kernel_rfl) ?_ (fun hH0 => ?_)
        · exact HCL.out _ HBW.out.fr
        refine wpAnyH_take (i := 0) (v := ?_) rfl (by kernel_rfl) (by kernel_rfl) (by kernel_rfl) (fun _ _ _ h => h) (Or.inl ⟨by rfl, ?_⟩) hH0 ?_
        rotate_left
        · (intro w hSw; (try dsimp only at hSw); go_simp; try with_reducible rfl)
        (try simp only [Act.put, List.getElem_toArray, List.getElem_cons_zero, List.getElem_cons_succ, List.setIfInBounds_toArray, List.set_cons_zero, List.set_cons_succ])
        refine wpAnyH_take (i := 1) (v := ?_) rfl (by kernel_rfl) (by kernel_rfl) (by kernel_rfl) (fun _ _ _ h => h) (Or.inl ⟨by rfl, ?_⟩) hH0 ?_
        rotate_left
        · (intro w hSw; (try dsimp only at hSw); go_simp; try with_reducible rfl)
        (try simp only [Act.put, List.getElem_toArray, List.getElem_cons_zero, List.getElem_cons_succ, List.setIfInBounds_toArray, List.set_cons_zero, List.set_cons_succ])
        refine wpAnyH_take (i := 2) (v := ?_) rfl (by kernel_rfl) (by kernel_rfl) (by kernel_rfl) (fun _ _ _ h => h) (Or.inl ⟨by rfl, ?_⟩) hH0 ?_
        rotate_left
        · (intro w hSw; (try dsimp only at hSw); go_simp; try with_reducible rfl)
        (try simp only [Act.put, List.getElem_toArray, List.getElem_cons_zero, List.getElem_cons_succ, List.setIfInBounds_toArray, List.set_cons_zero, List.set_cons_succ])
        refine wpAnyH_take (i := 3) (v := ?_) rfl (by kernel_rfl) (by kernel_rfl) (by kernel_rfl) (fun _ _ _ h => h) (Or.inl ⟨by rfl, ?_⟩) hH0 ?_
        rotate_left
        · (intro w hSw; (try dsimp only at hSw); go_simp; try with_reducible rfl)
        (try simp only [Act.put, List.getElem_toArray, List.getElem_cons_zero, List.getElem_cons_succ, List.setIfInBounds_toArray, List.set_cons_zero, List.set_cons_succ])
        refine wpAnyH_take (i := 4) (v := ?_) rfl (by kernel_rfl) (by kernel_rfl) (by kernel_rfl) (fun _ _ _ h => h) (Or.inl ⟨by rfl, ?_⟩) hH0 ?_
        rotate_left
        · (intro w hSw; (try dsimp only at hSw); go_simp; try with_reducible rfl)
        (try simp only [Act.put, List.getElem_toArray, List.getElem_cons_zero, List.getElem_cons_succ, List.setIfInBounds_toArray, List.set_cons_zero, List.set_cons_succ])
        refine wpAnyH_take (i := 5) (v := ?_) rfl (by kernel_rfl) (by kernel_rfl) (by kernel_rfl) (fun _ _ _ h => h) (Or.inl ⟨by rfl, ?_⟩) hH0 ?_
        rotate_left
        · (intro w hSw; (try dsimp only at hSw); go_simp; try with_reducible rfl)
        (try simp only [Act.put, List.getElem_toArray, List.getElem_cons_zero, List.getElem_cons_succ, List.setIfInBounds_toArray, List.set_cons_zero, List.set_cons_succ])
        refine wpAnyH_take (i := 7) (v := ?_) rfl (by kernel_rfl) (by kernel_rfl) (by kernel_rfl) (fun _ _ _ h => h) (Or.inl ⟨by rfl, ?_⟩) hH0 ?_
        rotate_left
        · (intro w hSw; (try dsimp only at hSw); go_simp; try with_reducible rfl)
        (try simp only [Act.put, List.getElem_toArray, List.getElem_cons_zero, List.getElem_cons_succ, List.setIfInBounds_toArray, List.set_cons_zero, List.set_cons_succ])
        refine wpAnyH_take (i := 8) (v := ?_) rfl (by kernel_rfl) (by kernel_rfl) (by kernel_rfl) (fun _ _ _ h => h) (Or.inl ⟨by rfl, ?_⟩) hH0 ?_
        rotate_left
        · (intro w hSw; (try dsimp only at hSw); go_simp; try with_reducible rfl)
        (try simp only [Act.put, List.getElem_toArray, List.getElem_cons_zero, List.getElem_cons_succ, List.setIfInBounds_toArray, List.set_cons_zero, List.set_cons_succ])
        refine wpAnyH_take (i := 9) (v := ?_) rfl (by kernel_rfl) (by kernel_rfl) (by kernel_rfl) (fun _ _ _ h => h) (Or.inl ⟨by rfl, ?_⟩) hH0 ?_
        rotate_left
        · (intro w hSw; (try dsimp only at hSw); go_simp; try with_reducible rfl)
        (try simp only [Act.put, List.getElem_toArray, List.getElem_cons_zero, List.getElem_cons_succ, List.setIfInBounds_toArray, List.set_cons_zero, List.set_cons_succ])
        refine wpAnyH_take (i := 10) (v := ?_) rfl (by kernel_rfl) (by kernel_rfl) (by kernel_rfl) (fun _ _ _ h => h) (Or.inl ⟨by rfl, ?_⟩) hH0 ?_
        rotate_left
        · (intro w hSw; (try dsimp only at hSw); go_simp; try with_reducible rfl)
        (try simp only [Act.put, List.getElem_toArray, List.getElem_cons_zero, List.getElem_cons_succ, List.setIfInBounds_toArray, List.set_cons_zero, List.set_cons_succ])
        refine wpAnyH_take (i := 11) (v := ?_) rfl (by kernel_rfl) (by kernel_rfl) (by kernel_rfl) (fun _ _ _ h => h) (Or.inl ⟨by rfl, ?_⟩) hH0 ?_
        rotate_left
        · (intro w hSw; (try dsimp only at hSw); go_simp; try with_reducible rfl)
        (try simp only [Act.put, List.getElem_toArray, List.getElem_cons_zero, List.getElem_cons_succ, List.setIfInBounds_toArray, List.set_cons_zero, List.set_cons_succ])
        refine wpAnyH_take (i := 12) (v := ?_) rfl (by kernel_rfl) (by kernel_rfl) (by kernel_rfl) (fun _ _ _ h => h) (Or.inl ⟨by rfl, ?_⟩) hH0 ?_
        rotate_left
        · (intro w hSw; (try dsimp only at hSw); go_simp; try with_reducible rfl)
        (try simp only [Act.put, List.getElem_toArray, List.getElem_cons_zero, List.getElem_cons_succ, List.setIfInBounds_toArray, List.set_cons_zero, List.set_cons_succ])
        refine wpAnyH_ready (rs := [6]) (by kernel_rfl) (by simp) ?_
        refine AllReadyH.cons rfl (fun K hK => ?_) AllReadyH.nil
        go_simp
        (with_reducible refine (HDO.out _ HBW.out).mono ?_)
        rintro e w6 ⟨rfl, hb6⟩
        have HB6 := Lib.hid hb6
        clear hb6
        refine hK.out _ _ ?_ (fun hH1 => ?_)
        · exact HCL.out _ HB6.out.fr
        clear hK K
        (try simp only [Act.put, List.getElem_toArray, List.getElem_cons_zero, List.getElem_cons_succ, List.setIfInBounds_toArray, List.set_cons_zero, List.set_cons_succ])
        refine wpAnyH_ready (rs := [13]) (by kernel_rfl) (by simp) ?_
        refine AllReadyH.cons rfl (fun K hK => ?_) AllReadyH.nil
        go_simp
        (with_reducible refine (HDR.out _ HB6.out).mono ?_)
        rintro e w7 ⟨rfl, hb7⟩
        obtain ⟨Ah, ch, hbh, hh1, hh2, hoh⟩ := hb7.rd
        obtain ⟨Ac', cc, hbc, hc1, hc2, hoc⟩ := hb7.two
        have HOH := Lib.hid hoh.rd
        have HOC := Lib.hid hoc.rd
        have hxh := hbh.cell 0
        have hxc := hbc.cell 0
        simp only [List.getElem?_toArray, List.getElem?_cons_zero] at hxh hxc
        have HB7 := Lib.hid hb7
        have HC2 : Hid (∀ W, Fr No w7 W → Fr No w7 W ∧ W.cell? ⟨(ad.add (i * 5)).block, (ad.add (i * 5)).off + 2, none⟩ = some (.string o.acct) ∧ W.cell? ⟨r, 0, none⟩ = some (.slice Ah H'.length ch) ∧ W.cell? ⟨q, 0, none⟩ = some (.slice Ac' S'.length cc)) := fun W hW => ⟨hW, (HCL.out _ (HB7.out.no hW).fr).2.2.2.1, hW.cell_some hxh (fun h => h), hW.cell_some hxc (fun h => h)⟩
        clear hbh hbc hoh hoc hb7 hxh hxc
        refine hK.out _ _ ?_ (fun hH1' => ?_)
        · exact HCL.out _ HB7.out.fr
        clear hK K
        (try simp only [Act.put, List.getElem_toArray, List.getElem_cons_zero, List.getElem_cons_succ, List.setIfInBounds_toArray, List.set_cons_zero, List.set_cons_succ])
        refine wpAnyH_up (S' := fun W => Fr No w7 W ∧ W.cell? ⟨(ad.add (i * 5)).block, (ad.add (i * 5)).off + 2, none⟩ = some (.string o.acct) ∧ W.cell? ⟨r, 0, none⟩ = some (.slice Ah H'.length ch) ∧ W.cell? ⟨q, 0, none⟩ = some (.slice Ac' S'.length cc)) (fun W h => HCL.out _ (HB7.out.no h.1).fr) _ _ _ _ ?_
        have hH2 := HC2.out _ (Fr.refl No w7)
        refine wpAnyH_take (i := 14) (v := ?_) rfl (by kernel_rfl) (by kernel_rfl) (by kernel_rfl) (fun _ _ _ h => h) (Or.inl ⟨by rfl, ?_⟩) hH2 ?_
        rotate_left
        · (intro w hSw; (try dsimp only at hSw); go_simp; try with_reducible rfl)
        (try simp only [Act.put, List.getElem_toArray, List.getElem_cons_zero, List.getElem_cons_succ, List.setIfInBounds_toArray, List.set_cons_zero, List.set_cons_succ])
        refine wpAnyH_take (i := 15) (v := ?_) rfl (by kernel_rfl) (by kernel_rfl) (by kernel_rfl) (fun _ _ _ h => h) (Or.inl ⟨by rfl, ?_⟩) hH2 ?_
        rotate_left
        · (intro w hSw; (try dsimp only at hSw); go_simp; try with_reducible rfl)
        (try simp only [Act.put, List.getElem_toArray, List.getElem_cons_zero, List.getElem_cons_succ, List.setIfInBounds_toArray, List.set_cons_zero, List.set_cons_succ])
        refine wpAnyH_take (i := 16) (v := ?_) rfl (by kernel_rfl) (by kernel_rfl) (by kernel_rfl) (fun _ _ _ h => h) (Or.inl ⟨by rfl, ?_⟩) hH2 ?_
        rotate_left
        · (intro w hSw; (try dsimp only at hSw); go_simp; try with_reducible rfl)
        (try simp only [Act.put, List.getElem_toArray, List.getElem_cons_zero, List.getElem_cons_succ, List.setIfInBounds_toArray, List.set_cons_zero, List.set_cons_succ])
        refine wpAnyH_take (i := 18) (v := ?_) rfl (by kernel_rfl) (by kernel_rfl) (by kernel_rfl) (fun _ _ _ h => h) (Or.inl ⟨by rfl, ?_⟩) hH2 ?_
        rotate_left
        · (intro w hSw; (try dsimp only at hSw); go_simp; try with_reducible rfl)
        (try simp only [Act.put, List.getElem_toArray, List.getElem_cons_zero, List.getElem_cons_succ, List.setIfInBounds_toArray, List.set_cons_zero, List.set_cons_succ])
        refine wpAnyH_take (i := 19) (v := ?_) rfl (by kernel_rfl) (by kernel_rfl) (by kernel_rfl) (fun _ _ _ h => h) (Or.inl ⟨by rfl, ?_⟩) hH2 ?_
        rotate_left
        · (intro w hSw; (try dsimp only at hSw); go_simp; try with_reducible rfl)
        (try simp only [Act.put, List.getElem_toArray, List.getElem_cons_zero, List.getElem_cons_succ, List.setIfInBounds_toArray, List.set_cons_zero, List.set_cons_succ])
        refine wpAnyH_take (i := 20) (v := ?_) rfl (by kernel_rfl) (by kernel_rfl) (by kernel_rfl) (fun _ _ _ h => h) (Or.inl ⟨by rfl, ?_⟩) hH2 ?_
        rotate_left
        · (intro w hSw; (try dsimp only at hSw); go_simp; try with_reducible rfl)
        (try simp only [Act.put, List.getElem_toArray, List.getElem_cons_zero, List.getElem_cons_succ, List.setIfInBounds_toArray, List.set_cons_zero, List.set_cons_succ])
        refine wpAnyH_take (i := 21) (v := ?_) rfl (by kernel_rfl) (by kernel_rfl) (by kernel_rfl) (fun _ _ _ h => h) (Or.inl ⟨by rfl, ?_⟩) hH2 ?_
        rotate_left
        · (intro w hSw; (try dsimp only at hSw); go_simp; try with_reducible rfl)
        (try simp only [Act.put, List.getElem_toArray, List.getElem_cons_zero, List.getElem_cons_succ, List.setIfInBounds_toArray, List.set_cons_zero, List.set_cons_succ])
        refine wpAnyH_ready (rs := [17]) (by kernel_rfl) (by simp) ?_
        refine AllReadyH.cons rfl (fun K hK => ?_) AllReadyH.nil
        go_simp
        (with_reducible refine (allH_then HL6.out.1 _ HB7.out.hd).mono ?_)
        rintro e w8 ⟨A8, c8, rfl, hr8, hf8⟩
        have HR8 := Lib.hid hr8
        have HF8 := Lib.hid hf8
        clear hr8 hf8
        refine hK.out _ _ ?_ (fun hH3 => ?_)
        · exact HC2.out _ HF8.out
        clear hK K
        (try simp only [Act.put, List.getElem_toArray, List.getElem_cons_zero, List.getElem_cons_succ, List.setIfInBounds_toArray, List.set_cons_zero, List.set_cons_succ])
        refine wpAnyH_ready (rs := [22]) (by kernel_rfl) (by simp) ?_
        refine AllReadyH.cons rfl (fun K hK => ?_) AllReadyH.nil
        go_simp
        (with_reducible refine (sameH_then HL6.out.1 _ _ _ _ _ _ _ HR8.out (HOH.out.fr (by omega) HF8.out (fun _ _ _ h => h))).mono ?_)
        rintro e w9 ⟨rfl, hf9⟩
        have HF9 := Lib.hid (HF8.out.trans hf9)
        clear hf9
        refine hK.out _ _ ?_ (fun hH4 => ?_)
        · exact HC2.out _ HF9.out
        clear hK K
        (try simp only [Act.put, List.getElem_toArray, List.getElem_cons_zero, List.getElem_cons_succ, List.setIfInBounds_toArray, List.set_cons_zero, List.set_cons_succ])
        refine wpAnyH_take (i := 23) (v := ?_) rfl (by kernel_rfl) (by kernel_rfl) (by kernel_rfl) (fun _ _ _ h => h) (Or.inl ⟨by rfl, ?_⟩) hH4 ?_
        rotate_left
        · (intro w hSw; (try dsimp only at hSw); go_simp; try with_reducible rfl)
        (try simp only [Act.put, List.getElem_toArray, List.getElem_cons_zero, List.getElem_cons_succ, List.setIfInBounds_toArray, List.set_cons_zero, List.set_cons_succ])
        refine wpAnyH_take (i := 24) (v := ?_) rfl (by kernel_rfl) (by kernel_rfl) (by kernel_rfl) (fun _ _ _ h => h) (Or.inl ⟨by rfl, ?_⟩) hH4 ?_
        rotate_left
        · (intro w hSw; (try dsimp only at hSw); go_simp; try with_reducible rfl)
        (try simp only [Act.put, List.getElem_toArray, List.getElem_cons_zero, List.getElem_cons_succ, List.setIfInBounds_toArray, List.set_cons_zero, List.set_cons_succ])
        refine wpAnyH_take (i := 25) (v := ?_) rfl (by kernel_rfl) (by kernel_rfl) (by kernel_rfl) (fun _ _ _ h => h) (Or.inl ⟨by rfl, ?_⟩) hH4 ?_
        rotate_left
        · (intro w hSw; (try dsimp only at hSw); go_simp; try with_reducible rfl)
        (try simp only [Act.put, List.getElem_toArray, List.getElem_cons_zero, List.getElem_cons_succ, List.setIfInBounds_toArray, List.set_cons_zero, List.set_cons_succ])
        refine wpAnyH_take (i := 26) (v := ?_) rfl (by kernel_rfl) (by kernel_rfl) (by kernel_rfl) (fun _ _ _ h => h) (Or.inl ⟨by rfl, ?_⟩) hH4 ?_
        rotate_left
        · (intro w hSw; (try dsimp only at hSw); go_simp; try with_reducible rfl)
        (try simp only [Act.put, List.getElem_toArray, List.getElem_cons_zero, List.getElem_cons_succ, List.setIfInBounds_toArray, List.set_cons_zero, List.set_cons_succ])
        refine wpAnyH_take (i := 27) (v := ?_) rfl (by kernel_rfl) (by kernel_rfl) (by kernel_rfl) (fun _ _ _ h => h) (Or.inl ⟨by rfl, ?_⟩) hH4 ?_
        rotate_left
        · (intro w hSw; (try dsimp only at hSw); go_simp; try with_reducible rfl)
        (try simp only [Act.put, List.getElem_toArray, List.getElem_cons_zero, List.getElem_cons_succ, List.setIfInBounds_toArray, List.set_cons_zero, List.set_cons_succ])
        refine wpAnyH_take (i := 28) (v := ?_) rfl (by kernel_rfl) (by kernel_rfl) (by kernel_rfl) (fun _ _ _ h => h) (Or.inl ⟨by rfl, ?_⟩) hH4 ?_
        rotate_left
        · (intro w hSw; (try dsimp only at hSw); go_simp; try with_reducible rfl)
        (try simp only [Act.put, List.getElem_toArray, List.getElem_cons_zero, List.getElem_cons_succ, List.setIfInBounds_toArray, List.set_cons_zero, List.set_cons_succ])
        refine wpAnyH_take (i := 29) (v := ?_) rfl (by kernel_rfl) (by kernel_rfl) (by kernel_rfl) (fun _ _ _ h => h) (Or.inl ⟨by rfl, ?_⟩) hH4 ?_
        rotate_left
        · (intro w hSw; (try dsimp only at hSw); go_simp; try with_reducible rfl)
        (try simp only [Act.put, List.getElem_toArray, List.getElem_cons_zero, List.getElem_cons_succ, List.setIfInBounds_toArray, List.set_cons_zero, List.set_cons_succ])
        refine wpAnyH_take (i := 30) (v := ?_) rfl (by kernel_rfl) (by kernel_rfl) (by kernel_rfl) (fun _ _ _ h => h) (Or.inl ⟨by rfl, ?_⟩) hH4 ?_
        rotate_left
        · (intro w hSw; (try dsimp only at hSw); go_simp; try with_reducible rfl)
        (try simp only [Act.put, List.getElem_toArray, List.getElem_cons_zero, List.getElem_cons_succ, List.setIfInBounds_toArray, List.set_cons_zero, List.set_cons_succ])
        refine wpAnyH_take (i := 31) (v := ?_) rfl (by kernel_rfl) (by kernel_rfl) (by kernel_rfl) (fun _ _ _ h => h) (Or.inl ⟨by rfl, ?_⟩) hH4 ?_
        rotate_left
        · (intro w hSw; (try dsimp only at hSw); go_simp; try with_reducible rfl)
        (try simp only [Act.put, List.getElem_toArray, List.getElem_cons_zero, List.getElem_cons_succ, List.setIfInBounds_toArray, List.set_cons_zero, List.set_cons_succ])
        refine wpAnyH_take (i := 33) (v := ?_) rfl (by kernel_rfl) (by kernel_rfl) (by kernel_rfl) (fun _ _ _ h => h) (Or.inl ⟨by rfl, ?_⟩) hH4 ?_
        rotate_left
        · (intro w hSw; (try dsimp only at hSw); go_simp; try with_reducible rfl)
        (try simp only [Act.put, List.getElem_toArray, List.getElem_cons_zero, List.getElem_cons_succ, List.setIfInBounds_toArray, List.set_cons_zero, List.set_cons_succ])
        refine wpAnyH_take (i := 34) (v := ?_) rfl (by kernel_rfl) (by kernel_rfl) (by kernel_rfl) (fun _ _ _ h => h) (Or.inl ⟨by rfl, ?_⟩) hH4 ?_
        rotate_left
        · (intro w hSw; (try dsimp only at hSw); go_simp; try with_reducible rfl)
        (try simp only [Act.put, List.getElem_toArray, List.getElem_cons_zero, List.getElem_cons_succ, List.setIfInBounds_toArray, List.set_cons_zero, List.set_cons_succ])
        refine wpAnyH_take (i := 35) (v := ?_) rfl (by kernel_rfl) (by kernel_rfl) (by kernel_rfl) (fun _ _ _ h => h) (Or.inl ⟨by rfl, ?_⟩) hH4 ?_
        rotate_left
        · (intro w hSw; (try dsimp only at hSw); go_simp; try with_reducible rfl)
        (try simp only [Act.put, List.getElem_toArray, List.getElem_cons_zero, List.getElem_cons_succ, List.setIfInBounds_toArray, List.set_cons_zero, List.set_cons_succ])
        refine wpAnyH_take (i := 36) (v := ?_) rfl (by kernel_rfl) (by kernel_rfl) (by kernel_rfl) (fun _ _ _ h => h) (Or.inl ⟨by rfl, ?_⟩) hH4 ?_
        rotate_left
        · (intro w hSw; (try dsimp only at hSw); go_simp; try with_reducible rfl)
        (try simp only [Act.put, List.getElem_toArray, List.getElem_cons_zero, List.getElem_cons_succ, List.setIfInBounds_toArray, List.set_cons_zero, List.set_cons_succ])
        refine wpAnyH_take (i := 37) (v := ?_) rfl (by kernel_rfl) (by kernel_rfl) (by kernel_rfl) (fun _ _ _ h => h) (Or.inl ⟨by rfl, ?_⟩) hH4 ?_
        rotate_left
        · (intro w hSw; (try dsimp only at hSw); go_simp; try with_reducible rfl)
        (try simp only [Act.put, List.getElem_toArray, List.getElem_cons_zero, List.getElem_cons_succ, List.setIfInBounds_toArray, List.set_cons_zero, List.set_cons_succ])
        refine wpAnyH_take (i := 38) (v := ?_) rfl (by kernel_rfl) (by kernel_rfl) (by kernel_rfl) (fun _ _ _ h => h) (Or.inl ⟨by rfl, ?_⟩) hH4 ?_
        rotate_left
        · (intro w hSw; (try dsimp only at hSw); go_simp; try with_reducible rfl)
        (try simp only [Act.put, List.getElem_toArray, List.getElem_cons_zero, List.getElem_cons_succ, List.setIfInBounds_toArray, List.set_cons_zero, List.set_cons_succ])
        refine wpAnyH_ready (rs := [32]) (by kernel_rfl) (by simp) ?_
        refine AllReadyH.cons rfl (fun K hK => ?_) AllReadyH.nil
        go_simp
        (with_reducible refine (ofH_then HL6.out.1 _ _ (HB7.out.hd.no HF9.out)).mono ?_)
        rintro e w10 ⟨A10, c10, rfl, hr10, hf10⟩
        have HR10 := Lib.hid hr10
        have HF10 := Lib.hid (HF9.out.trans hf10)
        clear hr10 hf10
        refine hK.out _ _ ?_ (fun hH5 => ?_)
        · exact HC2.out _ HF10.out
        clear hK K
        (try simp only [Act.put, List.getElem_toArray, List.getElem_cons_zero, List.getElem_cons_succ, List.setIfInBounds_toArray, List.set_cons_zero, List.set_cons_succ])
        refine wpAnyH_ready (rs := [39]) (by kernel_rfl) (by simp) ?_
        refine AllReadyH.cons rfl (fun K hK => ?_) AllReadyH.nil
        go_simp
        (with_reducible refine (rofH_then HL6.out.1 _ _ (HB7.out.rd.no HF10.out)).mono ?_)
        rintro e w11 ⟨A11, c11, rfl, hr11, hf11⟩
        have HR11 := Lib.hid hr11
        have HF11 := Lib.hid (HF10.out.trans hf11)
        have HF1011 := Lib.hid hf11
        clear hr11 hf11
        refine hK.out _ _ ?_ (fun hH6 => ?_)
        · exact HC2.out _ HF11.out
        clear hK K
        (try simp only [Act.put, List.getElem_toArray, List.getElem_cons_zero, List.getElem_cons_succ, List.setIfInBounds_toArray, List.set_cons_zero, List.set_cons_succ])
        refine wpAnyH_ready (rs := [40]) (by kernel_rfl) (by simp) ?_
        refine AllReadyH.cons rfl (fun K hK => ?_) AllReadyH.nil
        go_simp
        (with_reducible refine (sameH_then HOL.out _ _ _ _ _ _ _ (HR10.out.fr (by omega) HF1011.out (fun _ _ _ h => h)) HR11.out).mono ?_)
        rintro e w12 ⟨rfl, hf12⟩
        have HF12 := Lib.hid (HF11.out.trans hf12)
        clear hf12
        refine hK.out _ _ ?_ (fun hH7 => ?_)
        · exact HC2.out _ HF12.out
        clear hK K
        (try simp only [Act.put, List.getElem_toArray, List.getElem_cons_zero, List.getElem_cons_succ, List.setIfInBounds_toArray, List.set_cons_zero, List.set_cons_succ])
        refine wpAnyH_take (i := 41) (v := ?_) rfl (by kernel_rfl) (by kernel_rfl) (by kernel_rfl) (fun _ _ _ h => h) (Or.inl ⟨by rfl, ?_⟩) hH7 ?_
        rotate_left
        · (intro w hSw; (try dsimp only at hSw); go_simp; try with_reducible rfl)
        (try simp only [Act.put, List.getElem_toArray, List.getElem_cons_zero, List.getElem_cons_succ, List.setIfInBounds_toArray, List.set_cons_zero, List.set_cons_succ])
        refine wpAnyH_take (i := 42) (v := ?_) rfl (by kernel_rfl) (by kernel_rfl) (by kernel_rfl) (fun _ _ _ h => h) (Or.inl ⟨by rfl, ?_⟩) hH7 ?_
        rotate_left
        · (intro w hSw; (try dsimp only at hSw); go_simp; try with_reducible rfl)
        (try simp only [Act.put, List.getElem_toArray, List.getElem_cons_zero, List.getElem_cons_succ, List.setIfInBounds_toArray, List.set_cons_zero, List.set_cons_succ])
        refine wpAnyH_take (i := 43) (v := ?_) rfl (by kernel_rfl) (by kernel_rfl) (by kernel_rfl) (fun _ _ _ h => h) (Or.inl ⟨by rfl, ?_⟩) hH7 ?_
        rotate_left
        · (intro w hSw; (try dsimp only at hSw); go_simp; try with_reducible rfl)
        (try simp only [Act.put, List.getElem_toArray, List.getElem_cons_zero, List.getElem_cons_succ, List.setIfInBounds_toArray, List.set_cons_zero, List.set_cons_succ])
        refine wpAnyH_take (i := 44) (v := ?_) rfl (by kernel_rfl) (by kernel_rfl) (by kernel_rfl) (fun _ _ _ h => h) (Or.inl ⟨by rfl, ?_⟩) hH7 ?_
        rotate_left
        · (intro w hSw; (try dsimp only at hSw); go_simp; try with_reducible rfl)
        (try simp only [Act.put, List.getElem_toArray, List.getElem_cons_zero, List.getElem_cons_succ, List.setIfInBounds_toArray, List.set_cons_zero, List.set_cons_succ])
        refine wpAnyH_take (i := 46) (v := ?_) rfl (by kernel_rfl) (by kernel_rfl) (by kernel_rfl) (fun _ _ _ h => h) (Or.inl ⟨by rfl, ?_⟩) hH7 ?_
        rotate_left
        · (intro w hSw; (try dsimp only at hSw); go_simp; try with_reducible rfl)
        (try simp only [Act.put, List.getElem_toArray, List.getElem_cons_zero, List.getElem_cons_succ, List.setIfInBounds_toArray, List.set_cons_zero, List.set_cons_succ])
        refine wpAnyH_take (i := 47) (v := ?_) rfl (by kernel_rfl) (by kernel_rfl) (by kernel_rfl) (fun _ _ _ h => h) (Or.inl ⟨by rfl, ?_⟩) hH7 ?_
        rotate_left
        · (intro w hSw; (try dsimp only at hSw); go_simp; try with_reducible rfl)
        (try simp only [Act.put, List.getElem_toArray, List.getElem_cons_zero, List.getElem_cons_succ, List.setIfInBounds_toArray, List.set_cons_zero, List.set_cons_succ])
        refine wpAnyH_take (i := 48) (v := ?_) rfl (by kernel_rfl) (by kernel_rfl) (by kernel_rfl) (fun _ _ _ h => h) (Or.inl ⟨by rfl, ?_⟩) hH7 ?_
        rotate_left
        · (intro w hSw; (try dsimp only at hSw); go_simp; try with_reducible rfl)
        (try simp only [Act.put, List.getElem_toArray, List.getElem_cons_zero, List.getElem_cons_succ, List.setIfInBounds_toArray, List.set_cons_zero, List.set_cons_succ])
        refine wpAnyH_take (i := 49) (v := ?_) rfl (by kernel_rfl) (by kernel_rfl) (by kernel_rfl) (fun _ _ _ h => h) (Or.inl ⟨by rfl, ?_⟩) hH7 ?_
        rotate_left
        · (intro w hSw; (try dsimp only at hSw); go_simp; try with_reducible rfl)
        (try simp only [Act.put, List.getElem_toArray, List.getElem_cons_zero, List.getElem_cons_succ, List.setIfInBounds_toArray, List.set_cons_zero, List.set_cons_succ])
        refine wpAnyH_ready (rs := [45]) (by kernel_rfl) (by simp) ?_
        refine AllReadyH.cons rfl (fun K hK => ?_) AllReadyH.nil
        go_simp
        (with_reducible refine (all8_then HST6.out.kp.inv _ (HB7.out.one.no HF12.out)).mono ?_)
        rintro e w13 ⟨A13, c13, rfl, hr13, hf13⟩
        have HR13 := Lib.hid hr13
        have HF13 := Lib.hid (HF12.out.trans hf13)
        clear hr13 hf13
        refine hK.out _ _ ?_ (fun hH8 => ?_)
        · exact HC2.out _ HF13.out
        clear hK K
        (try simp only [Act.put, List.getElem_toArray, List.getElem_cons_zero, List.getElem_cons_succ, List.setIfInBounds_toArray, List.set_cons_zero, List.set_cons_succ])
        refine wpAnyH_ready (rs := [50]) (by kernel_rfl) (by simp) ?_
        refine AllReadyH.cons rfl (fun K hK => ?_) AllReadyH.nil
        go_simp
        (with_reducible refine (same8_then HST6.out.kp.inv _ _ _ _ _ _ _ HR13.out (HOC.out.fr (by omega) HF13.out (fun _ _ _ h => h))).mono ?_)
        rintro e w14 ⟨rfl, hf14⟩
        have HF14 := Lib.hid (HF13.out.trans hf14)
        clear hf14
        refine hK.out _ _ ?_ (fun hH9 => ?_)
        · exact HC2.out _ HF14.out
        clear hK K
        (try simp only [Act.put, List.getElem_toArray, List.getElem_cons_zero, List.getElem_cons_succ, List.setIfInBounds_toArray, List.set_cons_zero, List.set_cons_succ])
        refine wpAnyH_take (i := 51) (v := ?_) rfl (by kernel_rfl) (by kernel_rfl) (by kernel_rfl) (fun _ _ _ h => h) (Or.inl ⟨by rfl, ?_⟩) hH9 ?_
        rotate_left
        · (intro w hSw; (try dsimp only at hSw); go_simp; try with_reducible rfl)
        (try simp only [Act.put, List.getElem_toArray, List.getElem_cons_zero, List.getElem_cons_succ, List.setIfInBounds_toArray, List.set_cons_zero, List.set_cons_succ])
        refine wpAnyH_take (i := 52) (v := ?_) rfl (by kernel_rfl) (by kernel_rfl) (by kernel_rfl) (fun _ _ _ h => h) (Or.inl ⟨by rfl, ?_⟩) hH9 ?_
        rotate_left
        · (intro w hSw; (try dsimp only at hSw); go_simp; try with_reducible rfl)
        (try simp only [Act.put, List.getElem_toArray, List.getElem_cons_zero, List.getElem_cons_succ, List.setIfInBounds_toArray, List.set_cons_zero, List.set_cons_succ])
        refine wpAnyH_done (by kernel_rfl) ?_ _
        all_goals
          go_wp2
          go_meet
          exact ⟨⟨rfl, rfl⟩, HB7.out.no HF14.out⟩
      case rest =>
        obtain ⟨⟨rfl, rfl⟩, hb8⟩ := hcut
        have HB8 := Lib.hid hb8
        clear hb8
        go_wp2
        go_roundw
        case rel => exact ⟨i + 1, S', H', by omega, by go_num, HST6.out, HL6.out.2, ⟨HB8.out.one, HB8.out.hd, HB8.out.two, HB8.out.rd, HBO1.out.fr.trans HB8.out.fr⟩⟩
        case measure => simp [intOf]; omega
    · obtain rfl : i = n := by omega
      have HF := Lib.hid hbo.fr
      clear hst hbo
      go_wp2
      go_ret
      exact ⟨rfl, below_fr HB4.out HF.out HB4.out.size (fun k hk => by have := HM.out; rcases hk with rfl | rfl | rfl | rfl <;> omega)⟩
end Go.Proofs.YtcjdkifojkjjeaaGreat

namespace Go.Proofs.YtcjdkifojkjjeaaGreat.lawHoldPlays
open Go.ChangeShapes Go.WideShapes Go.ChangeAt Go.RowKit Go.My
open Go.ChangeMaps (open_string shut_string)
set_option linter.unusedVariables false
set_option linter.unusedSimpArgs false

theorem own : ownKnob Tryz.prog.godebug = none := by kernel_rfl
theorem laidOut : laidOutB Tryz.prog = true := by kernel_rfl

set_option maxRecDepth 100000 in
theorem lifted (os : Os) (started : os.Started) (H : Type) (enc : TypeId × Value → H) :
    ReturnsInHanded {} Tryz.checked os 3 .any (Rows.holdPlaysSpec.pre6 enc Tryz.prog Tryz.f3 Rows.holdPlaysRow.domain false) (Rows.holdPlaysSpec.post enc Tryz.prog Tryz.f3 false true false false) := by
  refine returnsInHanded_of_change (C := Tryz.checked) own started (by kernel_rfl) Tryz.func3
    (ChangeSpec.witness6 (enc := enc) (C := Tryz.checked) false ⟨#[], #[.slice none 0 0], []⟩ 8 (by kernel_rfl) (by kernel_rfl) (by kernel_rfl) (by kernel_rfl)) ?_
  intro W base args ds gs before hval0 hW hcnd _
  have hval : ∀ (j : Nat) t v, Tryz.f3.params[j]? = some t → args[j]? = some v → Value.okWide Tryz.prog W .any base t v := hval0
  have hW' := hW
  obtain ⟨p, q, hA0, hV, rfl, hfz, hnd⟩ := hW
  have hA : DataW.TrodAll enc Tryz.prog W 0 (fun _ => true) true Tryz.f3.params.toList args.toList ds p := hA0
  rw [Tryz.params3] at hA hval
  obtain ⟨v0, vs0, d0, ds0, p0, q0, hargs, rfl, rfl, h0, r0⟩ := trodAll_cons hA
  obtain ⟨rfl, rfl, rfl⟩ := trodAll_nil r0
  obtain rfl : args = #[v0] := by cases args; simp_all
  obtain ⟨rfl, rfl⟩ := trodVars_none hV
  obtain ⟨A0, n0, c0, rfl⟩ := okWide_slice Tryz.underlying22 (hval 0 22 v0 rfl rfl)
  have k0 := h0
  have lt0 : ∀ x ∈ p0, x.block < W.heap.size := by obtain ⟨m, hm⟩ := k0; exact DataW.trod_lt m _ _ _ hm
  obtain ⟨fu0, hf0⟩ := h0
  obtain ⟨A0', c0', cs0, l0, hcs0, rd0, lc0, cm0, ea0⟩ := open_each (RdOH) Tryz.underlying22 (size := 5) (by kernel_rfl) (by omega) (fun n cs x hx => open_opH hx) hf0
  simp [Value.cells] at hcs0
  obtain ⟨rfl, rfl, rfl⟩ := hcs0
  clear hA0 hval0
  refine (holdPlays_walk A0 c0 cs0 l0 W rd0 lc0 cm0 ea0).mono fun e W' ⟨he, bel⟩ => ?_
  subst he
  exact ⟨_, rfl, _, _, _, [], _, [], hW', trodAll_mk1 (shut_bool Tryz.underlying4 _), (trodAll_cons_mk (Below.trod laidOut (by kernel_rfl) (of_decide_eq_true (by kernel_rfl)) k0 bel lt0) trodAll_mk0), rfl, bel.frame _, fun h => by cases h⟩

theorem over : Rows.holdPlaysRow.holds Tryz.pinned (OpenSpec.ofChange Rows.holdPlaysSpec) :=
  OpenClaim.holds_of_wide 3 Tryz.f3 rfl rfl rfl rfl rfl rfl rfl ⟨rfl, rfl, rfl, rfl, rfl⟩ rfl rfl rfl rfl rfl (by kernel_rfl) Tryz.func3 (by kernel_rfl)
    (of_decide_eq_true (by kernel_rfl)) (by unfold Func.isWrapper; first | (rw [if_pos (by decide +kernel)]; kernel_rfl) | (rw [if_neg (by decide +kernel)]; exact ⟨rfl, rfl⟩))
    (fun os started H enc _ => lifted os started H enc)

theorem proved : Rows.HoldPlaysSaid := over
end Go.Proofs.YtcjdkifojkjjeaaGreat.lawHoldPlays
