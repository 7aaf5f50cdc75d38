/- Contracts of package order: ReadTold. -/
import Derived.Test.YtlcbbkookjmnkaaOrdA
namespace Go.Proofs.Ytlcbbkookjmnkaa
open Go.RowKit Go.My Go.Maps
set_option linter.unusedSimpArgs false
set_option linter.unusedVariables false
attribute [local go_sem ↓] Go.wp_at_zero Go.wp_at_succ

structure RawR where
  r : Rp
  e : Nat
  l : List UInt8
def rawR (l : List UInt8) : RawR :=
  let a := rrange 0 14 l 0
  let b := rnum a.2.2 a.2.1
  let c := rnum b.2.2 b.2.1
  let d := rint c.2.2 c.2.1
  ⟨⟨a.1, b.1, c.1, d.1⟩, d.2.1, d.2.2⟩
def readRB (l : List UInt8) : Bool := decide (doneE (rawR l).l (rawR l).e = 0)
def noR : Rp := ⟨0, 0, 0, 0⟩
def readR (l : List UInt8) : Rp := if readRB l = true then (rawR l).r else noR
def readRE (l : List UInt8) : Int := if readRB l = true then 0 else 3
theorem flat4 (a b c d : List UInt8) : flatB [a, b, c, d] = a ++ (b ++ (c ++ (d ++ []))) := rfl
theorem rawR_enc {r : Rp} (hr : r.ok) (h : 0 ≤ r.err ∧ r.err ≤ 14) : rawR (toldB r) = ⟨r, 0, []⟩ := by
  obtain ⟨i1, i2, i3, i4⟩ := hr
  unfold rawR toldB
  rw [flat4]
  have e2 : ∀ rest, rnum (nB r.hv ++ rest) 0 = (r.hv, 0, rest) := fun rest => rnum_enc _ _ i2
  have e3 : ∀ rest, rnum (nB r.st ++ rest) 0 = (r.st, 0, rest) := fun rest => rnum_enc _ _ i3
  simp only [rrng_enc 0 14 r.err _ i1 h.1 h.2, e2, e3, rint_enc _ _ i4]
theorem rnum_keep (l : List UInt8) (e : Nat) (he : e ≠ 0) : rnum l e = (0, e, l) := by unfold rnum; rw [if_pos he]
theorem rrange_keep (lo hi : Int) (l : List UInt8) (e : Nat) (he : e ≠ 0) : rrange lo hi l e = (0, e, l) := by
  unfold rrange
  rw [rnum_keep l e he]
  simp only [ne_eq, he, not_false_eq_true, if_true]
theorem rawR_bad {r : Rp} (hr : r.ok) (h : ¬ (0 ≤ r.err ∧ r.err ≤ 14)) : readRB (toldB r) = false := by
  have h1 : rrange 0 14 (toldB r) 0 = (0, 3, []) := by
    have e : rnum (toldB r) 0 = (r.err, 0, nB r.hv ++ (nB r.st ++ (nB r.num ++ []))) := rnum_enc _ _ hr.1
    unfold rrange
    rw [e]
    simp only [ne_eq, not_true_eq_false, if_false]
    rw [if_pos (by omega)]
  unfold readRB rawR
  simp only [h1, rnum_keep [] 3 (by decide)]
  unfold rint
  rw [rrange_keep _ _ [] 3 (by decide)]
  rfl
/-- what is read is told as just these bytes -/
theorem readR_bytes {l : List UInt8} (h : readRB l = true) : toldB (readR l) = l ∧ (readR l).ok ∧ 0 ≤ (readR l).err ∧ (readR l).err ≤ 14 := by
  have h0 := h
  have e : readR l = (rawR l).r := by unfold readR; rw [if_pos h0]
  rw [e]
  unfold readRB at h
  rw [decide_eq_true_eq] at h
  obtain ⟨he, hl⟩ := nil_of_done h
  unfold rawR at he hl ⊢
  simp only at he hl ⊢
  generalize hA : rrange 0 14 l 0 = a at *
  generalize hB : rnum a.2.2 a.2.1 = b at *
  generalize hC : rnum b.2.2 b.2.1 = c at *
  generalize hD : rint c.2.2 c.2.1 = d at *
  have sc : c.2.1 = 0 := rrange_stick _ _ _ _ (by rw [show rrange _ _ _ _ = d from hD]; exact he)
  have sb : b.2.1 = 0 := rnum_stick _ _ (by rw [hC]; exact sc)
  have sa : a.2.1 = 0 := rnum_stick _ _ (by rw [hB]; exact sb)
  rw [sa] at hB
  rw [sb] at hC
  rw [sc] at hD
  obtain ⟨e1, r1, r2⟩ := rrng_only 0 14 l (by rw [hA]; exact sa)
  have e2 : a.2.2 = nB (rnum a.2.2 0).1 ++ (rnum a.2.2 0).2.2 := rnum_only _ (by rw [hB]; exact sb)
  have e3 : b.2.2 = nB (rnum b.2.2 0).1 ++ (rnum b.2.2 0).2.2 := rnum_only _ (by rw [hC]; exact sc)
  have e4 := rint_only c.2.2 (by rw [hD]; exact he)
  rw [hA] at e1 r1 r2
  have b2 := rnum_bd a.2.2 0
  have b3 := rnum_bd b.2.2 0
  have b4 := rint_bd c.2.2 0
  rw [hB] at e2 b2
  rw [hC] at e3 b3
  rw [hD] at e4 b4
  refine ⟨?_, ⟨by unfold In64; simp only; omega, b2, b3, b4⟩, r1, r2⟩
  unfold toldB
  rw [flat4]
  simp only
  rw [hl] at e4
  rw [← e4, ← e3, ← e2]
  exact e1.symm
theorem told_read {r : Rp} (hr : r.ok) (h : 0 ≤ r.err ∧ r.err ≤ 14) : readRB (toldB r) = true ∧ readR (toldB r) = r := by
  have hb : readRB (toldB r) = true := by
    unfold readRB
    rw [rawR_enc hr h]
    rfl
  refine ⟨hb, ?_⟩
  unfold readR
  rw [if_pos hb, rawR_enc hr h]

def Rp.val (r : Rp) : Value := .agg #[.int .i64 r.err, .int .i64 r.hv, .int .i64 r.st, .int .i64 r.num]
set_option maxRecDepth 100000 in
set_option maxHeartbeats 8000000 in
theorem oreadt_any (F : Nat → Prop) (A : Option Addr) (n c : Nat) (l : List UInt8) (w : World) (hn : l.length = n) (hr : Rd w F 1 A n (bs l)) (hsz : n ≤ 140737488355328) :
    Calls Try.prog 23 #[.slice A n c] w fun e w' => e = .returned (.tuple #[(readR l).val, .int .i64 (readRE l)]) ∧ Fr No w w' := by
  have HNEW := Lib.hid (fun W (hW : Fr No w W) => pknew_rd F A n c l W hn (hr.fr (by omega) hW (fun _ _ _ h => h)) hsz)
  have HRS : Hid (readRB l = true → readR l = (rawR l).r ∧ readRE l = 0) := fun h => ⟨by unfold readR; rw [if_pos h], by unfold readRE; rw [if_pos h]⟩
  have HRN : Hid (readRB l = false → readR l = noR ∧ readRE l = 3) := fun h => ⟨by unfold readR; rw [h]; rfl, by unfold readRE; rw [h]; rfl⟩
  have HRB : Hid (readRB l = decide (doneE (rawR l).l (rawR l).e = 0)) := rfl
  clear hr hsz
  go_enter Try.func23, Try.ntmps23
  have hb2 := Blk.new w 29 #[.int .i64 0, .int .i64 0, .int .i64 0, .int .i64 0]
  go_wp2_with fail
  refine (HNEW.out _ ((Fr.refl _ _).alloc _)).mono ?_
  rintro e w1 ⟨p, q, rfl, hr1, hf1, hp1, hq1⟩
  rw [World.size_alloc] at hp1 hq1
  have HB2 := Lib.hid (hb2.fr hf1 (fun h => h))
  have HF1 : Hid (Fr No w w1) := ((Fr.refl _ _).alloc _).trans hf1
  have hb0 := Blk.new w1 29 #[.int .i64 0, .int .i64 0, .int .i64 0, .int .i64 0]
  have hfz : Fr No w1 (w1.alloc (.cells #[.int .i64 0, .int .i64 0, .int .i64 0, .int .i64 0] 29)) := (Fr.refl _ _).alloc _
  have hpl := hr1.lt
  have hql := (Rdr_q hr1).2
  have hs1 := HF1.out.size
  clear hb2 hf1 HNEW
  go_wp2_with fail
  refine (rrange_at p q 0 14 l 0 _ (Rdr_no hr1 hfz) (by omega)).mono ?_
  generalize w1.alloc (.cells #[.int .i64 0, .int .i64 0, .int .i64 0, .int .i64 0] 29) = w2 at *
  generalize hbo : w1.heap.size = bo at *
  have hf2 : Fr No w w2 := HF1.out.trans hfz
  have HB2' := Lib.hid (HB2.out.fr hfz (fun h => h))
  clear hfz HF1 HB2 hr1
  have HP : Hid (p < bo ∧ q < bo ∧ w.heap.size < p ∧ w.heap.size < q ∧ w.heap.size < bo) := ⟨by omega, by omega, by omega, by omega, by omega⟩
  have HT : Hid (∀ {a b : World} {i : Nat}, Fr No w a → Fr (At1 i) a b → w.heap.size < i → Fr No w b) := fun h1 h2 h3 => h1.trans' h2 (fun j hj hlt => by have : j = _ := hj; omega)
  clear hpl hql hs1 hp1 hq1 hbo
  rintro e u1 ⟨rfl, hra, hfa⟩
  unfold two
  have hea : (rrange 0 14 l 0).2.1 < 5 := rrange_err _ _ _ _ (by omega)
  generalize hAq : rrange 0 14 l 0 = a at *
  have hba := hb0.fr hfa (fun h => by have : bo = p := h; have := HP.out; omega)
  have HTa := Lib.hid (HB2'.out.fr hfa (fun h => by have : w.heap.size = p := h; have := HP.out; omega))
  have hwa : Fr No w u1 := HT.out hf2 hfa HP.out.2.2.1
  clear HB2'
  have HB2' := HTa
  clear HTa hfa
  have c0 := hba.cell 0
  have f0 := hba.frozen 0
  simp only [List.getElem?_toArray, List.getElem?_cons_zero, List.getElem?_cons_succ] at c0
  go_upto_region 5 with (fail)
  have hbS : Blk (u1.setCell ⟨bo, 0, none⟩ (.int .i64 a.1)) bo 29 #[.int .i64 a.1, .int .i64 0, .int .i64 0, .int .i64 0] := (hba.set_ 0 (.int .i64 a.1))
  have hfS : Fr (At1 bo) u1 (u1.setCell ⟨bo, 0, none⟩ (.int .i64 a.1)) := (Fr.refl (At1 bo) u1).setCell (p := ⟨bo, 0, none⟩) (fun _ => rfl) (.int .i64 a.1)
  generalize (u1.setCell ⟨bo, 0, none⟩ (.int .i64 a.1)) = v1 at *
  have hraS := hra.fr hfS (fun h => by have : p = bo := h; have := HP.out; omega) (fun h => by have : q = bo := h; have := HP.out; omega)
  have hwaS : Fr No w v1 := HT.out hwa hfS HP.out.2.2.2.2
  have HTS := Lib.hid (HB2'.out.fr hfS (fun h => by have : w.heap.size = bo := h; have := HP.out; omega))
  clear HB2'
  have HB2' := HTS
  clear HTS hfS c0 f0
  have hb1 := hbS
  clear hbS hba hra hwa hb0 hf2
  go_wp2_with fail
  refine (rnum_at p q a.2.2 a.2.1 _ hraS hea).mono ?_
  rintro e u2 ⟨rfl, hrb, hfb⟩
  unfold two
  have heb : (rnum a.2.2 a.2.1).2.1 < 5 := rnum_err _ _ (by omega)
  generalize hBq : rnum a.2.2 a.2.1 = b at *
  have hbb := hb1.fr hfb (fun h => by have : bo = p := h; have := HP.out; omega)
  have HTb := Lib.hid (HB2'.out.fr hfb (fun h => by have : w.heap.size = p := h; have := HP.out; omega))
  have hwb : Fr No w u2 := HT.out hwaS hfb HP.out.2.2.1
  clear HB2'
  have HB2' := HTb
  clear HTb hfb
  have c1 := hbb.cell 1
  have f1 := hbb.frozen 1
  simp only [List.getElem?_toArray, List.getElem?_cons_zero, List.getElem?_cons_succ] at c1
  go_upto_region 6 with (fail)
  have hbS : Blk (u2.setCell ⟨bo, 1, none⟩ (.int .i64 b.1)) bo 29 #[.int .i64 a.1, .int .i64 b.1, .int .i64 0, .int .i64 0] := (hbb.set_ 1 (.int .i64 b.1))
  have hfS : Fr (At1 bo) u2 (u2.setCell ⟨bo, 1, none⟩ (.int .i64 b.1)) := (Fr.refl (At1 bo) u2).setCell (p := ⟨bo, 1, none⟩) (fun _ => rfl) (.int .i64 b.1)
  generalize (u2.setCell ⟨bo, 1, none⟩ (.int .i64 b.1)) = v2 at *
  have hrbS := hrb.fr hfS (fun h => by have : p = bo := h; have := HP.out; omega) (fun h => by have : q = bo := h; have := HP.out; omega)
  have hwbS : Fr No w v2 := HT.out hwb hfS HP.out.2.2.2.2
  have HTS := Lib.hid (HB2'.out.fr hfS (fun h => by have : w.heap.size = bo := h; have := HP.out; omega))
  clear HB2'
  have HB2' := HTS
  clear HTS hfS c1 f1
  have hb2 := hbS
  clear hbS hbb hrb hwb hb1 hraS hwaS
  go_wp2_with fail
  refine (rnum_at p q b.2.2 b.2.1 _ hrbS heb).mono ?_
  rintro e u3 ⟨rfl, hrc, hfc⟩
  unfold two
  have hec : (rnum b.2.2 b.2.1).2.1 < 5 := rnum_err _ _ (by omega)
  generalize hCq : rnum b.2.2 b.2.1 = c at *
  have hbc := hb2.fr hfc (fun h => by have : bo = p := h; have := HP.out; omega)
  have HTc := Lib.hid (HB2'.out.fr hfc (fun h => by have : w.heap.size = p := h; have := HP.out; omega))
  have hwc : Fr No w u3 := HT.out hwbS hfc HP.out.2.2.1
  clear HB2'
  have HB2' := HTc
  clear HTc hfc
  have c2 := hbc.cell 2
  have f2 := hbc.frozen 2
  simp only [List.getElem?_toArray, List.getElem?_cons_zero, List.getElem?_cons_succ] at c2
  go_upto_region 7 with (fail)
  have hbS : Blk (u3.setCell ⟨bo, 2, none⟩ (.int .i64 c.1)) bo 29 #[.int .i64 a.1, .int .i64 b.1, .int .i64 c.1, .int .i64 0] := (hbc.set_ 2 (.int .i64 c.1))
  have hfS : Fr (At1 bo) u3 (u3.setCell ⟨bo, 2, none⟩ (.int .i64 c.1)) := (Fr.refl (At1 bo) u3).setCell (p := ⟨bo, 2, none⟩) (fun _ => rfl) (.int .i64 c.1)
  generalize (u3.setCell ⟨bo, 2, none⟩ (.int .i64 c.1)) = v3 at *
  have hrcS := hrc.fr hfS (fun h => by have : p = bo := h; have := HP.out; omega) (fun h => by have : q = bo := h; have := HP.out; omega)
  have hwcS : Fr No w v3 := HT.out hwc hfS HP.out.2.2.2.2
  have HTS := Lib.hid (HB2'.out.fr hfS (fun h => by have : w.heap.size = bo := h; have := HP.out; omega))
  clear HB2'
  have HB2' := HTS
  clear HTS hfS c2 f2
  have hb3 := hbS
  clear hbS hbc hrc hwc hb2 hrbS hwbS
  go_wp2_with fail
  refine (oint_any p q c.2.2 c.2.1 _ hrcS hec).mono ?_
  rintro e u4 ⟨rfl, hrd, hfd⟩
  have hed : (rint c.2.2 c.2.1).2.1 < 5 := rint_err _ _ (by omega)
  generalize hDq : rint c.2.2 c.2.1 = d at *
  have hbd := hb3.fr hfd (fun h => by have : bo = p := h; have := HP.out; omega)
  have HTd := Lib.hid (HB2'.out.fr hfd (fun h => by have : w.heap.size = p := h; have := HP.out; omega))
  have hwd : Fr No w u4 := HT.out hwcS hfd HP.out.2.2.1
  clear HB2'
  have HB2' := HTd
  clear HTd hfd
  have c3 := hbd.cell 3
  have f3 := hbd.frozen 3
  simp only [List.getElem?_toArray, List.getElem?_cons_zero, List.getElem?_cons_succ] at c3
  go_upto_region 8 with (fail)
  have hbS : Blk (u4.setCell ⟨bo, 3, none⟩ (.int .i64 d.1)) bo 29 #[.int .i64 a.1, .int .i64 b.1, .int .i64 c.1, .int .i64 d.1] := (hbd.set_ 3 (.int .i64 d.1))
  have hfS : Fr (At1 bo) u4 (u4.setCell ⟨bo, 3, none⟩ (.int .i64 d.1)) := (Fr.refl (At1 bo) u4).setCell (p := ⟨bo, 3, none⟩) (fun _ => rfl) (.int .i64 d.1)
  generalize (u4.setCell ⟨bo, 3, none⟩ (.int .i64 d.1)) = v4 at *
  have hrdS := hrd.fr hfS (fun h => by have : p = bo := h; have := HP.out; omega) (fun h => by have : q = bo := h; have := HP.out; omega)
  have hwdS : Fr No w v4 := HT.out hwd hfS HP.out.2.2.2.2
  have HTS := Lib.hid (HB2'.out.fr hfS (fun h => by have : w.heap.size = bo := h; have := HP.out; omega))
  clear HB2'
  have HB2' := HTS
  clear HTS hfS c3 f3
  have hb4 := hbS
  clear hbS hbd hrd hwd hb3 hrcS hwcS
  have HRAW : Hid (rawR l = ⟨⟨a.1, b.1, c.1, d.1⟩, d.2.1, d.2.2⟩) := by
    show _ = _
    unfold rawR
    simp only [hAq, hBq, hCq, hDq]
  go_wp2_with fail
  refine (done_at p q d.2.2 d.2.1 _ hrdS hed).mono ?_
  rintro e y6 ⟨rfl, hr6, hf6⟩
  have hRB := HRB.out
  rw [HRAW.out] at hRB
  simp only at hRB
  have HW6 : Hid (Fr No w y6) := HT.out hwdS hf6 HP.out.2.2.1
  have hTT := HB2'.out.fr hf6 (fun h => by have : w.heap.size = p := h; have := HP.out; omega)
  have hbo6 := hb4.fr hf6 (fun h => by have : bo = p := h; have := HP.out; omega)
  have HTT := Lib.hid hTT
  have HRAW2 : Hid ((rawR l).r = ⟨a.1, b.1, c.1, d.1⟩) := by show _ = _; rw [HRAW.out]
  have HSZ : Hid ((Try.prog.info? 29).map (·.size) = some 4) := by show _ = _; kernel_rfl
  generalize hdn : doneE d.2.2 d.2.1 = dn at *
  clear hr6 hf6 hb4 hTT HRB HRAW hAq hBq hCq hDq hdn hrdS hwdS HB2'
  by_cases hd0 : dn = 0
  · subst hd0
    have HRBT : Hid (readRB l = true) := by show _ = _; rw [hRB]; rfl
    clear hRB
    have q0 := hbo6.cell 0
    have q1 := hbo6.cell 1
    have q2 := hbo6.cell 2
    have q3 := hbo6.cell 3
    simp only [List.getElem?_toArray, List.getElem?_cons_zero, List.getElem?_cons_succ] at q0 q1 q2 q3
    clear hbo6
    go_wp2_with (refine wpList_store_row rfl 29 (.tmp 2) (.tmp 36) rfl w.heap.size #[.int .i64 a.1, .int .i64 b.1, .int .i64 c.1, .int .i64 d.1] rfl rfl 29 #[.int .i64 0, .int .i64 0, .int .i64 0, .int .i64 0] HTT.out HSZ.out rfl (by simp [Value.oneCell']) ?_)
    have hbZ : Blk (y6.setRow w.heap.size #[.int .i64 a.1, .int .i64 b.1, .int .i64 c.1, .int .i64 d.1]) w.heap.size 29 #[.int .i64 a.1, .int .i64 b.1, .int .i64 c.1, .int .i64 d.1] := setRow_heap y6 w.heap.size _ _ _ _ HTT.out
    have hfZ : Fr (At1 w.heap.size) y6 (y6.setRow w.heap.size #[.int .i64 a.1, .int .i64 b.1, .int .i64 c.1, .int .i64 d.1]) := Fr.setRow (S := At1 w.heap.size) (Fr.refl _ y6) (fun _ => rfl) _
    generalize y6.setRow w.heap.size #[.int .i64 a.1, .int .i64 b.1, .int .i64 c.1, .int .i64 d.1] = y9 at *
    have d0 := hbZ.cell 0
    have d1 := hbZ.cell 1
    have d2 := hbZ.cell 2
    have d3 := hbZ.cell 3
    simp only [List.getElem?_toArray, List.getElem?_cons_zero, List.getElem?_cons_succ] at d0 d1 d2 d3
    refine bodyPost_ret (v := .tuple #[.agg #[.int .i64 a.1, .int .i64 b.1, .int .i64 c.1, .int .i64 d.1], .int .i64 0]) (by simp [results, Try.results23, go_sem, d0, d1, d2, d3]) rfl ?_
    rw [(HRS.out HRBT.out).1, (HRS.out HRBT.out).2, HRAW2.out]
    exact ⟨rfl, HW6.out.trans' hfZ (fun k hk hlt => by have : k = w.heap.size := hk; omega)⟩
  · have hz : ((dn : Int) != 0) = true := by rw [bne_iff_ne]; omega
    have HRBF : Hid (readRB l = false) := by show _ = _; rw [hRB, decide_eq_false hd0]
    clear hd0 hRB hbo6
    go_wp2_with (refine wpList_store_row rfl 29 (.tmp 2) (.tmp 35) rfl w.heap.size #[.int .i64 0, .int .i64 0, .int .i64 0, .int .i64 0] rfl rfl 29 #[.int .i64 0, .int .i64 0, .int .i64 0, .int .i64 0] HTT.out HSZ.out rfl (by simp [Value.oneCell']) ?_)
    have hbZ : Blk (y6.setRow w.heap.size #[.int .i64 0, .int .i64 0, .int .i64 0, .int .i64 0]) w.heap.size 29 #[.int .i64 0, .int .i64 0, .int .i64 0, .int .i64 0] := setRow_heap y6 w.heap.size _ _ _ _ HTT.out
    have hfZ : Fr (At1 w.heap.size) y6 (y6.setRow w.heap.size #[.int .i64 0, .int .i64 0, .int .i64 0, .int .i64 0]) := Fr.setRow (S := At1 w.heap.size) (Fr.refl _ y6) (fun _ => rfl) _
    generalize y6.setRow w.heap.size #[.int .i64 0, .int .i64 0, .int .i64 0, .int .i64 0] = y9 at *
    have d0 := hbZ.cell 0
    have d1 := hbZ.cell 1
    have d2 := hbZ.cell 2
    have d3 := hbZ.cell 3
    simp only [List.getElem?_toArray, List.getElem?_cons_zero, List.getElem?_cons_succ] at d0 d1 d2 d3
    refine bodyPost_ret (v := .tuple #[.agg #[.int .i64 0, .int .i64 0, .int .i64 0, .int .i64 0], .int .i64 3]) (by simp [results, Try.results23, go_sem, d0, d1, d2, d3]) rfl ?_
    rw [(HRN.out HRBF.out).1, (HRN.out HRBF.out).2]
    exact ⟨rfl, HW6.out.trans' hfZ (fun k hk hlt => by have : k = w.heap.size := hk; omega)⟩
end Go.Proofs.Ytlcbbkookjmnkaa
