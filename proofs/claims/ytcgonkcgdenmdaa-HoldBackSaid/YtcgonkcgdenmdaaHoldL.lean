/- HoldBack's walk. -/
import Derived.Test.YtcgonkcgdenmdaaHoldK
import Derived.Test.YtcgonkcgdenmdaaHoldL0
namespace Go.Proofs.Ytcgonkcgdenmdaa
open Go.RowKit Go.My Go.Maps Go.BigFrame
set_option linter.unusedSimpArgs false
set_option linter.unusedVariables false
attribute [local go_sem ↓] Go.wp_at_zero Go.wp_at_succ

theorem eq_c (s : ByteArray) : s.data.toList = [99] ∨ s.data.toList ≠ [99] := Decidable.em _
set_option maxRecDepth 100000 in
set_option maxHeartbeats 8000000 in
theorem holdBack_walk (A : Option Addr) (c : Nat) (cells : List Value) (l : List OpH) (v : Value) (o : OpH) (w : World) (hr : Rd w (Lt w.heap.size) 5 A l.length cells) (hlc : l.length ≤ c) (hcm : c ≤ maxLen) (hE : Each RdOH 5 cells l) (rd : v = o.val ∧ o.ok) :
    Calls Try.prog 4 #[.slice A l.length c, v] w (RetTrue w) := by
  obtain ⟨rfl, ho⟩ := rd
  obtain ⟨xk, xn, xs, xt, xx⟩ := o
  have HXO := Lib.hid ho
  unfold OpH.val
  simp only
  have HR := Lib.hid hr
  have HEA := Lib.hid hE
  have HCM := Lib.hid hcm
  have HLC := Lib.hid hlc
  have HBX := Lib.hid (Blk.new w 38 #[.int .i64 xk, .int .i64 xn, .string xs, .string xt, .int .i64 xx])
  clear hr hE hcm hlc ho
  go_enter Try.func4, Try.ntmps4
  go_wp2_with fail
  refine (lives8 _).mono ?_
  rintro e w1 ⟨rfl, hb1⟩
  have hbx1 := HBX.out.below hb1 (by simp)
  have hs1 : w.heap.size < w1.heap.size := hbx1.lt
  have hb1' : Below w.heap.size w w1 := ((Below.refl _ _).alloc (Nat.le_refl _) _).trans (hb1.mono (by simp))
  go_wp2_with fail
  refine (begin_any _).mono ?_
  rintro e w2 ⟨p, m, q, rfl, hc2, -, hf2, hp2, hm2, -⟩
  go_wp2_with fail
  refine (newH_any _).mono ?_
  rintro e w3 ⟨ph, mh, rfl, hh3, hf3, hp3, hm3⟩
  have hml := hc2.2.lt
  have hmh : mh ≠ m := by omega
  have HC3 := Lib.hid (hc2.no hf3)
  have HH3 := Lib.hid hh3
  have hs2 := hf2.size
  have HB3 : Hid (Below w.heap.size w w3) := below_fr_no (below_fr_no hb1' hf2 hb1'.size) hf3 (by have := hb1'.size; omega)
  have HM : Hid (w.heap.size < m ∧ w.heap.size < mh) := ⟨by omega, by omega⟩
  have HBX3 := Lib.hid ((hbx1.fr hf2 (fun h => h)).fr hf3 (fun h => h))
  have HRD := Lib.hid (HR.out.below HB3.out fun _ h => h)
  clear hb1 hb1' hc2 hf2 hp2 hm2 hh3 hf3 hp3 hm3 hml hs1 hs2 hbx1 HR HBX
  obtain ⟨n, hn, hn2, hEA⟩ : ∃ n, n ≤ l.length ∧ n ≤ 120 ∧ ∀ W, Calls Try.prog 10 #[.slice A l.length c] W fun e w' => e = .returned (.slice A n c) ∧ W = w' := ⟨min l.length 120, by omega, by omega, fun W => (earlyH_any _ _ _ _ HLC.out HCM.out).mono fun e w' h => ⟨h.1, h.2.symm⟩⟩
  have HEY := Lib.hid hEA
  clear hEA
  go_wp2_with (go_at_call 10; refine (HEY.out _).mono ?_; rintro e w4 ⟨rfl, rfl⟩)
  go_loopw [8] (fun iv wr => AsRel w3 p m ph mh n iv wr) (fun iv _ => n - (intOf iv).toNat)
  case atStart => exact ⟨0, abcS, [], Nat.zero_le _, rfl, HC3.out, HH3.out, stB, Nat.le_refl _, Fr.refl _ _⟩
  case round =>
    obtain ⟨i, S, H, hi, rfl, hcS, hhS, hst, hHl, hfr⟩ := hrel
    by_cases hlt : i < n
    · have hil : i < l.length := by omega
      have hRw : Rd wr (Lt w.heap.size) 5 A l.length cells := HRD.out.fr (by omega) hfr fun k hk _ hs => by
        have hk' : k < w.heap.size := hk
        have := HM.out
        rcases hs with rfl | rfl <;> omega
      obtain ⟨ad, rfl, had, hok, q0, q1, q2, q3, q4⟩ := scrH_at hRw HEA.out i hil hil
      have HDO := Lib.hid (doesH_any p m ph mh S H l[i] wr hcS hst hhS (by omega) hmh hok)
      unfold OpH.val at HDO
      obtain ⟨d1, d2, d3⟩ := hst.does l[i] hok
      have HST6 := Lib.hid d1
      have HL6 : Hid ((doesHH S H l[i]).length ≤ i + 1) := by show _ ≤ _; omega
      have HFR := Lib.hid hfr
      generalize l[i] = o at *
      clear hcS hhS hst hfr hRw had hok d1 d2 d3
      go_wp2_with fail
      refine HDO.out.mono ?_
      rintro e w7 ⟨rfl, hc7, hh7, hf7⟩
      go_wp2
      go_roundw
      case rel => exact ⟨i + 1, _, _, by omega, by go_num, hc7, hh7, HST6.out, HL6.out, HFR.out.trans hf7⟩
      case measure => simp [intOf]; omega
    · obtain rfl : i = n := by omega
      have hxr : Blk wr w.heap.size 38 #[.int .i64 xk, .int .i64 xn, .string xs, .string xt, .int .i64 xx] := HBX3.out.fr hfr (fun h => by have := HM.out; rcases h with h | h <;> omega)
      have hBw : Below w.heap.size w wr := below_fr HB3.out hfr HB3.out.size (fun k hk => by have := HM.out; rcases hk with rfl | rfl <;> omega)
      have HST := Lib.hid hst
      have HHL : Hid (H.length < 900) := by show _ < _; omega
      have hmw := hcS.2.lt
      have hmw2 := hhS.2.lt
      have hsw := hxr.lt
      have hxn := HXO.out.2.1
      have hxs := HXO.out.2.2.1
      have hxx := HXO.out.2.2.2.2
      simp only at hxn hxs hxx
      have HXX : Hid (xx ≤ 9223372036854775807) := by show _ ≤ _; unfold In64 at hxx; omega
      have HPUT : Hid (∀ W, ChS W p m S → HdS W ph mh H → Calls Try.prog 16 #[.pointer (some ⟨ph, 0, none⟩), .pointer (some ⟨p, 0, none⟩), .agg #[.int .i64 xn, .string xs, .int .i64 xx]] W (HRet p m ph mh (putE S H xn xs.data.toList xx) (putSS S H xn xs.data.toList xx) (putHH S H xn xs.data.toList xx) W)) := fun W h1 h2 => put_any p m ph mh S H xs xn xx W h1 HST.out.kp.inv h2 (by have := HHL.out; omega) hmh hxs hxn hxx
      go_wp2_with fail
      (with_reducible refine (all_any p m S _ hcS hst.kp.inv.nm hst.kp.inv.len).mono ?_)
      rintro e w5 ⟨vw, rfl, how, hf5', hn5⟩
      obtain ⟨Aw, cw, rfl, hlw, hcw⟩ := how.form
      have hf5 := fr_at_none hf5'
      go_wp2_with fail
      (with_reducible refine (allH_any ph mh H _ (hhS.no hf5) (by have := HHL.out; omega)).mono ?_)
      rintro e w6 ⟨vh, rfl, hoh, hf6', hn6⟩
      obtain ⟨Ah, ch, rfl, hlh, hch⟩ := hoh.form
      have hf6 := hf5.trans (fr_at_none hf6')
      have hx6 := hxr.fr hf6 (fun h => h)
      have c1 := hx6.cell 1
      have c2 := hx6.cell 2
      have c4 := hx6.cell 4
      simp only [List.getElem?_toArray, List.getElem?_cons_zero, List.getElem?_cons_succ] at c1 c2 c4
      have HOW := Lib.hid (how.fr (fr_at_none hf6') (fun _ _ h => h))
      have HN5 : Hid (∀ k, (Value.slice Aw S.length cw).ownBlock = some k → wr.heap.size ≤ k) := fun k hk => newer_none hn5 k hk
      have HX6 := Lib.hid hx6
      have HF6 := Lib.hid hf6
      have HC6 := Lib.hid (hcS.no hf6)
      have HH6 := Lib.hid (hhS.no hf6)
      have HBW := Lib.hid hBw
      have hs6 := hf6.size
      have HE : Hid (∀ W, Fr (At2 m mh) w6 W → RetTrue w (.returned (.bool true)) W) := fun W hW => ⟨rfl, below_fr (below_fr_no HBW.out HF6.out HBW.out.size) hW (by have := HBW.out.size; omega) (fun k hk => by have := HM.out; rcases hk with rfl | rfl <;> omega)⟩
      clear hcS hhS hst hfr hxr hBw how hf5' hn5 hf5 hf6' hn6 hf6 hoh hx6
      by_cases h0 : putE S H xn xs.data.toList xx = 0
      · obtain ⟨g1, g2, g3, g4, -, -, g7⟩ := HST.out.put_free HXX.out h0
        obtain ⟨ac, k1, k2, k3, k4, k5⟩ := HST.out.put_take HXX.out h0
        have HS1 := Lib.hid (HST.out.put xn xx xs.data.toList HXX.out)
        have hGS : ac.name = xs.data.toList := (getA_some k1).2
        have HFREE : Hid (∀ W, ChS W p m (putSS S H xn xs.data.toList xx) → HdS W ph mh (putHH S H xn xs.data.toList xx) → Calls Try.prog 19 #[.pointer (some ⟨ph, 0, none⟩), .pointer (some ⟨p, 0, none⟩), .string xs, .int .i64 xn] W (HRet p m ph mh 0 S H W)) := fun W h1 h2 => by
          have h := free_any p m ph mh _ _ xs xn W h1 HS1.out.kp.inv h2 HS1.out.pos (by rw [g7]; have := HHL.out; omega) hmh hxs hxn
          rw [g2, g3, g4] at h
          exact h
        have HTAKE : Hid (∀ pd md pg mg W, ChS W pd md (putSS S H xn xs.data.toList xx) → HdS W pg mg (putHH S H xn xs.data.toList xx) → mg ≠ md → Calls Try.prog 21 #[.pointer (some ⟨pg, 0, none⟩), .pointer (some ⟨pd, 0, none⟩), .string xs, .int .i64 xn, .string ⟨#[99]⟩, .int .i64 xx] W (HRet pd md pg mg (takeE (putSS S H xn xs.data.toList xx) (putHH S H xn xs.data.toList xx) xs xn ⟨#[99]⟩ xx) (takeSS (putSS S H xn xs.data.toList xx) (putHH S H xn xs.data.toList xx) xs xn ⟨#[99]⟩ xx) (takeHH (putSS S H xn xs.data.toList xx) (putHH S H xn xs.data.toList xx) xs xn ⟨#[99]⟩ xx) W)) := fun pd md pg mg W h1 h2 h3 =>
          take_any pd md pg mg _ _ xs ⟨#[99]⟩ xn xx W h1 HS1.out.kp.inv HS1.out.kp.good h2 HS1.out.pos (by rw [g7]; have := HHL.out; omega) h3 hxs (by decide) hxn hxx
        have HTI := Lib.hid (HS1.out.take xs ⟨#[99]⟩ xn xx)
        have HTE : Hid (takeE (putSS S H xn xs.data.toList xx) (putHH S H xn xs.data.toList xx) xs xn ⟨#[99]⟩ xx ≠ 0 → takeSS (putSS S H xn xs.data.toList xx) (putHH S H xn xs.data.toList xx) xs xn ⟨#[99]⟩ xx = putSS S H xn xs.data.toList xx) := fun h => by unfold takeSS; rw [if_neg h]
        have HL1 : Hid ((putHH S H xn xs.data.toList xx).length < 1000) := by show _ < _; rw [g7]; have := HHL.out; omega
        rw [h0] at HPUT
        clear g1 g2 g3 g4 g7 h0
        generalize takeE (putSS S H xn xs.data.toList xx) (putHH S H xn xs.data.toList xx) xs xn ⟨#[99]⟩ xx = te at *
        generalize takeSS (putSS S H xn xs.data.toList xx) (putHH S H xn xs.data.toList xx) xs xn ⟨#[99]⟩ xx = T at *
        generalize takeHH (putSS S H xn xs.data.toList xx) (putHH S H xn xs.data.toList xx) xs xn ⟨#[99]⟩ xx = TH at *
        generalize putSS S H xn xs.data.toList xx = S1 at *
        generalize putHH S H xn xs.data.toList xx = H1 at *
        obtain ⟨na, vh, vs, vl⟩ := ac
        simp only at hGS k2 k3 k5
        have HG1 : Hid (∀ pd md W, ChS W pd md S1 → Calls Try.prog 20 #[.pointer (some ⟨pd, 0, none⟩), .string xs] W fun e w' => e = .returned (.tuple #[.agg #[.string ⟨na.toArray⟩, .int .i64 vh, .int .i64 (vs + xx), .int .i64 vl], .int .i64 0]) ∧ ChS w' pd md S1 ∧ Fr (At1 md) W w') := fun pd md W hW => by
          have h := get_any pd md S1 xs W hW hxs HS1.out.kp.inv.len
          unfold GotC getV at h
          rw [k2] at h
          exact h
        have HG2 : Hid (∀ pd md W b, getA T xs.data.toList = some b → ChS W pd md T → Calls Try.prog 20 #[.pointer (some ⟨pd, 0, none⟩), .string xs] W fun e w' => e = .returned (.tuple #[.agg #[.string ⟨b.name.toArray⟩, .int .i64 b.hv, .int .i64 b.st, .int .i64 b.lim], .int .i64 0]) ∧ ChS w' pd md T ∧ Fr (At1 md) W w') := fun pd md W b hb hW => by
          have h := get_any pd md T xs W hW hxs HTI.out.kp.inv.len
          unfold GotC getV at h
          rw [hb] at h
          exact h
        have hok1 := HST.out.kp.inv.ok _ (getA_some k1).1
        unfold OkA In64 at hok1
        simp only at hok1
        go_wp2_with fail
        refine (HPUT.out _ (HC6.out.no ((Fr.refl _ _).alloc _)) (HH6.out.no ((Fr.refl _ _).alloc _))).mono ?_
        rintro e w7 ⟨rfl, hc7, hh7, hf7'⟩
        have hf7 : Fr (At2 m mh) w6 w7 := ((Fr.refl _ _).alloc _).trans hf7'
        have hs7 := hf7.size
        have HF7 := Lib.hid hf7
        have HC7 := Lib.hid hc7
        have HH7 := Lib.hid hh7
        clear hf7' hf7 hc7 hh7 HPUT
        go_wp2_with fail
        (with_reducible refine (copy_any p m S1 _ HC7.out).mono ?_)
        rintro e w8 ⟨pd, md, rfl, hd8, hf8, hpd, hmd⟩
        go_wp2_with fail
        (with_reducible refine (copyH_any ph mh H1 _ (HH7.out.no hf8)).mono ?_)
        rintro e w9 ⟨pg, mg, rfl, hg9, hf9, hpg, hmg⟩
        have hl1 := hd8.2.lt
        have hl2 := hd8.1.lt
        have hl3 := hg9.2.lt
        have hl4 := hg9.1.lt
        have hs8 := hf8.size
        have hs9 := hf9.size
        have hgd : mg ≠ md := by omega
        have HF9 : Hid (Fr (At2 m mh) w6 w9) := HF7.out.trans (no2 (hf8.trans hf9))
        have HD9 := Lib.hid (hd8.no hf9)
        have HG9 := Lib.hid hg9
        have HC9 := Lib.hid (HC7.out.no (hf8.trans hf9))
        have HH9 := Lib.hid (HH7.out.no (hf8.trans hf9))
        have hbm : w6.heap.size ≤ md ∧ w6.heap.size ≤ mg ∧ w6.heap.size ≤ pd ∧ w6.heap.size ≤ pg ∧ m < w6.heap.size ∧ mh < w6.heap.size := by omega
        have HXW : Hid (∀ W, Fr (At2 m mh) w6 W → W.cell? ⟨w.heap.size, 1, none⟩ = some (.int .i64 xn) ∧ W.cell? ⟨w.heap.size, 2, none⟩ = some (.string xs) ∧ W.cell? ⟨w.heap.size, 4, none⟩ = some (.int .i64 xx)) := fun W hW => by
          have h := HX6.out.fr hW (fun h => by have := HM.out; rcases h with h | h <;> omega)
          exact ⟨h.cell 1, h.cell 2, h.cell 4⟩
        clear hd8 hf8 hg9 hf9 hpd hmd hpg hmg HC7 HH7 HF7 c1 c2 c4
        obtain ⟨c1, c2, c4⟩ := HXW.out _ HF9.out
        go_wp2_with fail
        (with_reducible refine (HFREE.out _ HC9.out HH9.out).mono ?_)
        rintro e w10 ⟨rfl, hc10, hh10, hf10⟩
        have HC10 := Lib.hid hc10
        have HH10 := Lib.hid hh10
        have HD10 : Hid (ChS w10 pd md S1) := HD9.out.fr hf10 (fun h => by rcases h with h | h <;> omega) (fun h => by rcases h with h | h <;> omega)
        have HG10 : Hid (HdS w10 pg mg H1) := HG9.out.fr hf10 (fun h => by rcases h with h | h <;> omega) (fun h => by rcases h with h | h <;> omega)
        have HF10 : Hid (Fr (At2 m mh) w6 w10) := HF9.out.trans hf10
        clear hc10 hh10 hf10 HD9 HG9 HC9 HH9 HF9 c1 c2 c4 HFREE
        go_wp2_with fail
        (with_reducible refine (all_any p m S _ HC10.out HST.out.kp.inv.nm HST.out.kp.inv.len).mono ?_)
        rintro e w11 ⟨v8, rfl, ho8, hf8', hn8⟩
        obtain ⟨A8, c8, rfl, hl8, hcc8⟩ := ho8.form
        have hf8 := fr_at_none hf8'
        have hf611 := HF10.out.trans (no2 hf8)
        have how11 := HOW.out.fr hf611 (fun k hk h => by
          have h3 := HN5.out k hk
          rcases h with rfl | rfl <;> omega)
        have hsm := sameA_any _ _ A8 Aw c8 cw S S w11 ho8.rd how11.rd (by have := HST.out.kp.inv.len; omega)
        rw [decide_eq_true rfl] at hsm
        have HSM := Lib.hid hsm
        have HF8 := Lib.hid hf8
        clear hsm hf611 how11 ho8 hf8' hn8 hf8
        go_wp2_with fail
        (with_reducible refine HSM.out.mono ?_)
        rintro e w12 ⟨rfl, nq, rfl⟩
        have hq9 : Fr No w10 (w11.drewN nq) := HF8.out.drewN _
        go_wp2_with fail
        (with_reducible refine (allH_any ph mh H _ (HH10.out.no hq9) (by have := HHL.out; omega)).mono ?_)
        rintro e w13 ⟨v10, rfl, ho10, hf10, _⟩
        obtain ⟨A10, c10, rfl, hl10, hc10⟩ := ho10.form
        have hz := hq9.trans (fr_at_none hf10)
        have HF13 : Hid (Fr (At2 m mh) w6 w13) := HF10.out.trans (no2 hz)
        have HD13 := Lib.hid (HD10.out.no hz)
        have HG13 := Lib.hid (HG10.out.no hz)
        clear ho10 hf10 hq9 hz HSM HF8 HD10 HG10 HC10 HH10 HF10
        obtain ⟨c1, c2, c4⟩ := HXW.out _ HF13.out
        go_wp2_with fail
        (with_reducible refine (HG1.out _ _ _ HD13.out).mono ?_)
        rintro e w14 ⟨rfl, hd14, hf14⟩
        have HF14 : Hid (Fr (At2 m mh) w6 w14) := HF13.out.trans' hf14 (fun i hi hlt => by have : i = md := hi; omega)
        have HG14 : Hid (HdS w14 pg mg H1) := HG13.out.at1 HD13.out hgd hf14
        have HD14 := Lib.hid hd14
        have HA14 := fun cs => Blk.new w14 42 cs
        clear hd14 hf14 HD13 HG13 HF13 c1 c2 c4
        have HAL : Hid (∀ o : Obj, ChS (w14.alloc o) pd md S1 ∧ HdS (w14.alloc o) pg mg H1 ∧ Fr (At2 m mh) w6 (w14.alloc o)) := fun o => ⟨HD14.out.no ((Fr.refl _ _).alloc _), HG14.out.no ((Fr.refl _ _).alloc _), HF14.out.alloc _⟩
        have hmd14 := HD14.out.2.lt
        have hmg14 := HG14.out.2.lt
        have hs14 := HF14.out.size
        have htk : (xs.data.toList = [99] ∧ te = 1) ∨ (xs.data.toList ≠ [99] ∧ te = 2) ∨ (xs.data.toList ≠ [99] ∧ te = 0) := by
          rcases eq_c xs with h | h
          · exact .inl ⟨h, k4 h⟩
          · rcases k5 h with h2 | ⟨h2, _⟩
            · exact .inr (.inl ⟨h, h2⟩)
            · exact .inr (.inr ⟨h, h2⟩)
        have HK5 := Lib.hid k5
        have HCX := Lib.hid fun o => HXW.out _ (HAL.out o).2.2
        have c1 := fun o => (HCX.out o).1
        have c2 := fun o => (HCX.out o).2.1
        have c4 := fun o => (HCX.out o).2.2
        clear k1 k4 k5
        rcases htk with ⟨hx9, rfl⟩ | ⟨hx9, rfl⟩ | ⟨hx9, rfl⟩
        · have kT : getA T xs.data.toList = some ⟨na, vh, vs + xx, vl⟩ := by rw [HTE.out (by decide)]; exact k2
          have HKT := Lib.hid kT
          clear kT k2 k3 hok1
          obtain ⟨⟨lx⟩⟩ := xs
          simp only at hx9
          subst hx9
          go_wp2_with fail
          (with_reducible refine (HTAKE.out pd md pg mg _ (HAL.out _).1 (HAL.out _).2.1 hgd).mono ?_)
          rintro e w16 ⟨rfl, hd16, hg16, hf16⟩
          have ha16 := (HA14 _).fr hf16 (fun h => by rcases h with h | h <;> omega)
          have HF16 : Hid (Fr (At2 m mh) w6 w16) := (HAL.out _).2.2.trans' hf16 (fun i hi hlt => by rcases hi with rfl | rfl <;> omega)
          clear c1 c2 c4
          obtain ⟨c1, c2, c4⟩ := HXW.out _ HF16.out
          go_wp2_with fail
          (with_reducible refine (HG2.out _ _ _ _ HKT.out hd16).mono ?_)
          rintro e w17 ⟨rfl, hd17, hf17⟩
          have ha17 := ha16.fr hf17 (fun h => by have : w14.heap.size = md := h; omega)
          have HF17 : Hid (Fr (At2 m mh) w6 w17) := HF16.out.trans' hf17 (fun i hi hlt => by have : i = md := hi; omega)
          have HBL := fun o => ha17.alloc o
          have a0 := fun o => (HBL o).cell 0
          have a1 := fun o => (HBL o).cell 1
          have a2 := fun o => (HBL o).cell 2
          have a3 := fun o => (HBL o).cell 3
          simp only [List.getElem?_toArray, List.getElem?_cons_zero, List.getElem?_cons_succ] at a0 a1 a2 a3
          have HCY := Lib.hid fun o => HXW.out _ (HF17.out.alloc o)
          clear c1 c2 c4
          have c1 := fun o => (HCY.out o).1
          have c2 := fun o => (HCY.out o).2.1
          have c4 := fun o => (HCY.out o).2.2
          clear hd16 hg16 hf16 ha16 hd17 hf17 ha17 HBL
          go_wp2
          go_ret
          exact HE.out _ (HF17.out.alloc _)
        · have kT : getA T xs.data.toList = some ⟨na, vh, vs + xx, vl⟩ := by rw [HTE.out (by decide)]; exact k2
          have HKT := Lib.hid kT
          clear kT k2 k3 hok1
          obtain ⟨⟨lx⟩⟩ := xs
          simp only at hx9
          have hz1 : (lx == [99]) = false := beq_eq_false_iff_ne.2 hx9
          have hz2 : ((⟨lx.toArray⟩ : ByteArray).toList == [99]) = false := by rw [ByteArray.toList_eq]; exact hz1
          have hz3 : ((⟨lx.toArray⟩ : ByteArray).toList == (⟨#[99]⟩ : ByteArray).toList) = false := by rw [ByteArray.toList_eq, ByteArray.toList_eq]; exact hz1
          go_wp2_with fail
          (with_reducible refine (HTAKE.out pd md pg mg _ (HAL.out _).1 (HAL.out _).2.1 hgd).mono ?_)
          rintro e w16 ⟨rfl, hd16, hg16, hf16⟩
          have ha16 := (HA14 _).fr hf16 (fun h => by rcases h with h | h <;> omega)
          have HF16 : Hid (Fr (At2 m mh) w6 w16) := (HAL.out _).2.2.trans' hf16 (fun i hi hlt => by rcases hi with rfl | rfl <;> omega)
          clear c1 c2 c4
          obtain ⟨c1, c2, c4⟩ := HXW.out _ HF16.out
          go_wp2_with fail
          (with_reducible refine (HG2.out _ _ _ _ HKT.out hd16).mono ?_)
          rintro e w17 ⟨rfl, hd17, hf17⟩
          have ha17 := ha16.fr hf17 (fun h => by have : w14.heap.size = md := h; omega)
          have HF17 : Hid (Fr (At2 m mh) w6 w17) := HF16.out.trans' hf17 (fun i hi hlt => by have : i = md := hi; omega)
          have HBL := fun o => ha17.alloc o
          have a0 := fun o => (HBL o).cell 0
          have a1 := fun o => (HBL o).cell 1
          have a2 := fun o => (HBL o).cell 2
          have a3 := fun o => (HBL o).cell 3
          simp only [List.getElem?_toArray, List.getElem?_cons_zero, List.getElem?_cons_succ] at a0 a1 a2 a3
          have HCY := Lib.hid fun o => HXW.out _ (HF17.out.alloc o)
          clear c1 c2 c4
          have c1 := fun o => (HCY.out o).1
          have c2 := fun o => (HCY.out o).2.1
          have c4 := fun o => (HCY.out o).2.2
          clear hd16 hg16 hf16 ha16 hd17 hf17 ha17 HBL
          go_wp2
          go_ret
          exact HE.out _ (HF17.out.alloc _)
        · obtain ⟨hin, kT, hTH⟩ : In64 (vh - xx) ∧ getA T xs.data.toList = some ⟨na, vh - xx, vs, vl⟩ ∧ TH = H := by
            rcases HK5.out hx9 with h2 | ⟨_, h3, h4, h5⟩
            · exact absurd h2 (by decide)
            · exact ⟨h3, h4, h5⟩
          obtain ⟨u, hu⟩ : ∃ u, vh - xx = u := ⟨_, rfl⟩
          have HW1 : Hid (u = wrap64 (vh - xx)) := by show _ = _; unfold In64 at hin; rw [IntWalk.wrap64_in _ ⟨by omega, by omega⟩]; exact hu.symm
          have HW2 : Hid (vs = wrap64 (vs + xx - xx) ∧ vs = wrap64 vs) := by
            rw [show vs + xx - xx = vs by omega]
            have h := IntWalk.wrap64_in vs ⟨by omega, by omega⟩
            exact ⟨h.symm, h.symm⟩
          rw [hu] at kT
          have HKT := Lib.hid kT
          rw [hTH] at HTAKE
          clear hu
          clear hin hTH
          clear kT k2 k3 hok1
          obtain ⟨⟨lx⟩⟩ := xs
          simp only at hx9
          have hz1 : (lx == [99]) = false := beq_eq_false_iff_ne.2 hx9
          have hz2 : ((⟨lx.toArray⟩ : ByteArray).toList == [99]) = false := by rw [ByteArray.toList_eq]; exact hz1
          have hz3 : ((⟨lx.toArray⟩ : ByteArray).toList == (⟨#[99]⟩ : ByteArray).toList) = false := by rw [ByteArray.toList_eq, ByteArray.toList_eq]; exact hz1
          go_wp2_with fail
          (with_reducible refine (HTAKE.out pd md pg mg _ (HAL.out _).1 (HAL.out _).2.1 hgd).mono ?_)
          rintro e w16 ⟨rfl, hd16, hg16, hf16⟩
          have ha16 := (HA14 _).fr hf16 (fun h => by rcases h with h | h <;> omega)
          have HF16 : Hid (Fr (At2 m mh) w6 w16) := (HAL.out _).2.2.trans' hf16 (fun i hi hlt => by rcases hi with rfl | rfl <;> omega)
          clear c1 c2 c4
          obtain ⟨c1, c2, c4⟩ := HXW.out _ HF16.out
          go_wp2_with fail
          (with_reducible refine (HG2.out _ _ _ _ HKT.out hd16).mono ?_)
          rintro e w17 ⟨rfl, hd17, hf17⟩
          have ha17 := ha16.fr hf17 (fun h => by have : w14.heap.size = md := h; omega)
          have HF17 : Hid (Fr (At2 m mh) w6 w17) := HF16.out.trans' hf17 (fun i hi hlt => by have : i = md := hi; omega)
          have HBL := fun o => ha17.alloc o
          have a0 := fun o => (HBL o).cell 0
          have a1 := fun o => (HBL o).cell 1
          have a2 := fun o => (HBL o).cell 2
          have a3 := fun o => (HBL o).cell 3
          simp only [List.getElem?_toArray, List.getElem?_cons_zero, List.getElem?_cons_succ] at a0 a1 a2 a3
          have HCY := Lib.hid fun o => HXW.out _ (HF17.out.alloc o)
          clear c1 c2 c4
          have c1 := fun o => (HCY.out o).1
          have c2 := fun o => (HCY.out o).2.1
          have c4 := fun o => (HCY.out o).2.2
          have hg17 := hg16.at1 hd16 hgd hf17
          have HG17 := Lib.hid fun o => allH_any pg mg H (w17.alloc o) (hg17.no ((Fr.refl _ _).alloc _)) (by have := HHL.out; omega)
          clear hd16 hg16 hf16 ha16 hd17 hf17 ha17 HBL hg17
          have hw5 := HW2.out.2.symm
          go_wp2_with fail
          focus
            (with_reducible refine (HG17.out _).mono ?_)
            rintro e w18 ⟨v18, rfl, ho18, hf18, _⟩
            obtain ⟨A18, c18, rfl, hl18, hc18⟩ := ho18.form
            have HF18 : Hid (Fr (At2 m mh) w6 w18) := (HF17.out.alloc _).trans (no2 (fr_at_none hf18))
            clear ho18 hf18 a0 a1 a2 a3 c1 c2 c4
            go_wp2
            go_ret
            exact HE.out _ HF18.out
          all_goals
            exfalso
            first
              | exact (by assumption : ¬ u = wrap64 (vh - xx)) HW1.out
              | exact (by assumption : ¬ vs = wrap64 (vs + xx - xx)) HW2.out.1
              | exact (by assumption : ¬ vs = wrap64 vs) HW2.out.2
      · have e1 : putSS S H xn xs.data.toList xx = S := by unfold putSS; rw [if_neg h0]
        have e2 : putHH S H xn xs.data.toList xx = H := by unfold putHH; rw [if_neg h0]
        rw [e1, e2] at HPUT
        generalize putE S H xn xs.data.toList xx = ev at *
        have hz2 : (ev != 0) = true := by rw [bne_iff_ne]; exact h0
        clear e1 e2 h0
        go_wp2_with fail
        refine (HPUT.out _ (HC6.out.no ((Fr.refl _ _).alloc _)) (HH6.out.no ((Fr.refl _ _).alloc _))).mono ?_
        rintro e w7 ⟨rfl, hc7, hh7, hf7'⟩
        have hf7 : Fr (At2 m mh) w6 w7 := ((Fr.refl _ _).alloc _).trans hf7'
        have how7 := HOW.out.fr hf7 (fun k hk h => by
          have h3 := HN5.out k hk
          rcases h with rfl | rfl <;> omega)
        go_wp2_with fail
        (with_reducible refine (all_any p m S _ hc7 HST.out.kp.inv.nm HST.out.kp.inv.len).mono ?_)
        rintro e w8 ⟨v8, rfl, ho8, hf8', hn8⟩
        obtain ⟨A8, c8, rfl, hl8, hcc8⟩ := ho8.form
        have hf8 := fr_at_none hf8'
        have hsm := sameA_any _ _ A8 Aw c8 cw S S w8 ho8.rd (rd_noH how7.rd (by omega) hf8) (by have := HST.out.kp.inv.len; omega)
        rw [decide_eq_true rfl] at hsm
        have HSM := Lib.hid hsm
        have HF8 := Lib.hid (hf7.trans (no2 hf8))
        have HH8 := Lib.hid (hh7.no hf8)
        clear hsm hc7 hh7 hf7 hf7' how7 ho8 hf8' hn8 hf8
        go_wp2_with fail
        (with_reducible refine HSM.out.mono ?_)
        rintro e w9 ⟨rfl, nq, rfl⟩
        have hq9 : Fr No w8 (w8.drewN nq) := (Fr.refl _ _).drewN _
        go_wp2_with fail
        (with_reducible refine (allH_any ph mh H _ (HH8.out.no hq9) (by have := HHL.out; omega)).mono ?_)
        rintro e w10 ⟨v10, rfl, ho10, hf10, _⟩
        obtain ⟨A10, c10, rfl, hl10, hc10⟩ := ho10.form
        have hz : Fr (At2 m mh) w6 w10 := HF8.out.trans (no2 (hq9.trans (fr_at_none hf10)))
        clear ho10 hf10 hq9
        go_wp2
        go_ret
        exact HE.out _ hz
end Go.Proofs.Ytcgonkcgdenmdaa
