/- What a Hold does to a book in memory. What a book does: a table of what each kind of order does; Do. Steps on holds, done; scripts that come in. What the laws on holds call first. -/
import Derived.Test.YtcpgamidimfflaaGreatQ21
import Derived.Laws.EntriesVeiled
import Derived.Test.YtcpgamidimfflaaGreatQ16
import Derived.Test.YtcpgamidimfflaaGreatQ02
namespace Go.Proofs.YtcpgamidimfflaaGreat
open Go.RowKit Go.My Go.Maps
set_option linter.unusedSimpArgs false
set_option linter.unusedVariables false
attribute [local go_sem ↓] Go.wp_at_zero Go.wp_at_succ
theorem keep_set4 {S : Nat → Prop} {w1 u : World} {g : Nat} {a b c d : Value} (h : Fr S w1 u) (hg : w1.heap.size ≤ g) : Fr S w1 ((((u.setCell ⟨g, 0, none⟩ a).setCell ⟨g, 1, none⟩ b).setCell ⟨g, 2, none⟩ c).setCell ⟨g, 3, none⟩ d) :=
  h.trans' (fr_set4 u g a b c d) fun i hi hlt => by
    have : i = g := hi
    omega
theorem did_tail {q : Pl} {b b' : Bk} {w u V W : World} {g r : Nat} (hq : BkS w q b) (h : BkS u q b' ∧ Fr q.wr w u) (hB : Fr (At1 g) u V) (hC : Fr (At1 r) V W) (hg : w.heap.size ≤ g) (hr : w.heap.size ≤ r) : BkS W q b' ∧ Fr q.wr w W := by
  refine ⟨(h.1.fr hB fun i hi e => ?_).fr hC fun i hi e => ?_, (h.2.trans' hB fun i hi hlt => ?_).trans' hC fun i hi hlt => ?_⟩
  · have := hq.lt i hi
    have : i = g := e
    omega
  · have := hq.lt i hi
    have : i = r := e
    omega
  · have : i = g := hi
    omega
  · have : i = r := hi
    omega
set_option maxRecDepth 100000 in
set_option maxHeartbeats 2000000 in
theorem bhold_any (q : Pl) (b : Bk) (o : Od) (v : Value) (w : World) (h : BkS w q b) (ho : o.ok) (hr : rightO o = true) (hk : o.kd = 3) :
    Calls Tryz.prog 151 #[.pointer (some ⟨q.p, 0, none⟩), o.val v] w (DidB q (effR b o) (effB b o) w) := by
  have hI := eff_inv h.inv ho hr
  have eB : effB b o = ⟨putSS b.S b.H (numO o) o.an o.sum, putHH b.S b.H (numO o) o.an o.sum, b.cl⟩ := by unfold effB; rw [if_neg (show ¬ o.kd = 1 by omega), if_neg (show ¬ o.kd = 2 by omega), if_pos hk]
  have eR : effR b o = numR (aboutR (putSS b.S b.H (numO o) o.an o.sum) o.an (putE b.S b.H (numO o) o.an o.sum)) (numO o) := by unfold effR; rw [if_neg (show ¬ o.kd = 1 by omega), if_neg (show ¬ o.kd = 2 by omega), if_pos hk]
  rw [eB] at hI
  rw [eB, eR]
  obtain ⟨-, hid, -, -⟩ := right_kd hr
  have hnum := numO_eq hid
  obtain ⟨-, -, -, hac, hpe, hsm, hpr, hhd, -⟩ := ho
  clear eB eR hr hk
  have HNM : Hid (∀ W, Calls Tryz.prog 201 #[.agg #[.int .i64 o.cl, .int .i64 o.sq]] W fun e w' => e = .returned (.int .i64 (numO o)) ∧ Fr No W w') := fun W => by
    rw [hnum]
    exact number_any _ _ ⟨hid.1, hid.2.1⟩ hid.2.2 W
  have hni : In64 (numO o) := by rw [hnum]; unfold In64; omega
  clear hnum hid
  generalize numO o = num at *
  obtain ⟨ocl, osq, okd, oac, ope, osm, olg, opr, ohd, ont⟩ := o
  unfold Od.val Od.cs Od.an at *
  simp only at hac hpe hsm hpr hhd hI HNM ⊢
  have HH := Lib.hid h
  have HI := Lib.hid hI
  have HO : Hid (∀ W, Fr No w W → Calls Tryz.prog 202 #[.pointer (some ⟨q.h, 0, none⟩), .pointer (some ⟨q.c, 0, none⟩), .agg #[.int .i64 num, .string oac, .int .i64 osm]] W fun e w' => e = .returned (.int .i64 (putE b.S b.H num oac.data.toList osm)) ∧ BkS w' q ⟨putSS b.S b.H num oac.data.toList osm, putHH b.S b.H num oac.data.toList osm, b.cl⟩ ∧ Fr (At2 q.m q.k) W w') := fun W hW =>
    (put_any q.c q.m q.h q.k b.S b.H oac num osm W (h.ch.no hW) h.inv.st.kp.inv (h.hd.no hW) (by have := h.inv.st.len; omega) h.ne hac hni hsm).mono fun e w' hx => ⟨hx.ret, (h.no hW).both hx hI, hx.fr⟩
  generalize putE b.S b.H num oac.data.toList osm = E at *
  generalize putSS b.S b.H num oac.data.toList osm = T at *
  generalize putHH b.S b.H num oac.data.toList osm = T2 at *
  obtain ⟨re, rh, rs, rn, hR⟩ : ∃ a b c d, aboutR T oac.data.toList E = ⟨a, b, c, d⟩ := ⟨_, _, _, _, rfl⟩
  have HAB : Hid (∀ W, BkS W q ⟨T, T2, b.cl⟩ → Calls Tryz.prog 197 #[.pointer (some ⟨q.p, 0, none⟩), .string oac, .int .i64 E] W fun e w' => e = .returned (.agg #[.int .i64 re, .int .i64 rh, .int .i64 rs, .int .i64 rn]) ∧ BkS w' q ⟨T, T2, b.cl⟩ ∧ Fr (At2 q.m q.k) W w') := fun W hW => by
    have hx := about_any q ⟨T, T2, b.cl⟩ oac E W hW hac
    rw [hR] at hx
    exact hx.mono fun e w' h => ⟨h.1, h.2.1, h.2.2.mono fun _ _ h => .inl h⟩
  rw [hR]
  have hfar : ∀ g, w.heap.size ≤ g → ¬ At2 q.m q.k g := fun g hg e => Pl.far h hg (by rcases e with e | e; exact .inr (.inl e); exact .inr (.inr e))
  have hbk := h.blk
  have hbo := Blk.new w 35 #[.int .i64 ocl, .int .i64 osq, .int .i64 okd, .string oac, .string ope, .int .i64 osm, v, .int .i64 opr, .int .i64 ohd, .string ont]
  have hbr := Blk.new (w.alloc (.cells #[.int .i64 ocl, .int .i64 osq, .int .i64 okd, .string oac, .string ope, .int .i64 osm, v, .int .i64 opr, .int .i64 ohd, .string ont] 35)) 50 #[.int .i64 0, .int .i64 0, .int .i64 0, .int .i64 0]
  rw [World.size_alloc] at hbr
  have hbo1 := hbo.alloc (.cells #[.int .i64 0, .int .i64 0, .int .i64 0, .int .i64 0] 50)
  have hf1 : Fr No w ((w.alloc (.cells #[.int .i64 ocl, .int .i64 osq, .int .i64 okd, .string oac, .string ope, .int .i64 osm, v, .int .i64 opr, .int .i64 ohd, .string ont] 35)).alloc (.cells #[.int .i64 0, .int .i64 0, .int .i64 0, .int .i64 0] 50)) := ((Fr.refl _ _).alloc _).alloc _
  have hmp := h.mp
  have hlt : q.p < w.heap.size := h.blk.lt
  have o0 := hbo1.cell 0
  have o1 := hbo1.cell 1
  simp only [List.getElem?_toArray, List.getElem?_cons_zero, List.getElem?_cons_succ] at o0 o1
  clear h hI hR hac hsm hpe hpr hhd hbo hni
  go_enter Tryz.func151, Tryz.ntmps151
  go_wp2_with fail
  (with_reducible refine (HNM.out _).mono ?_)
  rintro e w1 ⟨rfl, hg0⟩
  have hf1 := hf1.trans hg0
  have hbo1 := hbo1.fr hg0 (fun h => h)
  have hbr := hbr.fr hg0 (fun h => h)
  clear hg0 HNM o0 o1
  go_upto_region 2 with (fail)
  have hsz : w.heap.size + 1 < w1.heap.size := hbr.lt
  have HF1 := Lib.hid hf1
  have HBR := Lib.hid hbr
  have HX : Hid (∀ W, Fr (At2 q.m q.k) w1 W → Fr (At2 q.m q.k) w1 W ∧ W.cell? ⟨q.p, 0, none⟩ = some (.pointer (some ⟨q.c, 0, none⟩)) ∧ W.cell? ⟨q.p, 1, none⟩ = some (.pointer (some ⟨q.h, 0, none⟩)) ∧ W.cell? ⟨w.heap.size, 3, none⟩ = some (.string oac) ∧ W.cell? ⟨w.heap.size, 5, none⟩ = some (.int .i64 osm)) := fun W hW => by
    have h1 := hbo1.fr hW (hfar _ (Nat.le_refl _))
    have h2 := (hbk.fr hf1 (fun h => h)).fr hW (fun e => by rcases e with e | e; exact hmp.1 e.symm; exact hmp.2 e.symm)
    exact ⟨hW, h2.cell 0, h2.cell 1, h1.cell 3, h1.cell 5⟩
  have HFAR := Lib.hid hfar
  have hw1 : Fr (At2 q.m q.k) w1 w1.drew := (Fr.refl _ w1).drew
  clear hf1 hbr hbo1 hbk hfar hmp hlt
  go_region_held3 (fun W => Fr (At2 q.m q.k) w1 W ∧ W.cell? ⟨q.p, 0, none⟩ = some (.pointer (some ⟨q.c, 0, none⟩)) ∧ W.cell? ⟨q.p, 1, none⟩ = some (.pointer (some ⟨q.h, 0, none⟩)) ∧ W.cell? ⟨w.heap.size, 3, none⟩ = some (.string oac) ∧ W.cell? ⟨w.heap.size, 5, none⟩ = some (.int .i64 osm))
    (first
      | (refine HX.out _ ?_; with_reducible assumption)
      | (refine HX.out _ (Fr.alloc ?_ _); with_reducible assumption)
      | (refine HX.out _ (Fr.drew (Fr.alloc ?_ _)); with_reducible first | assumption | exact Fr.refl _ w1)
      | (refine HX.out _ (keep_set4 (by with_reducible assumption) (by first | with_reducible assumption | omega))))
    (first
      | (go_at_call 202; (with_reducible refine (HO.out _ ((HF1.out.alloc _).drew)).mono ?_); rintro e u1 ⟨rfl, hb1, hg⟩; have ka1 : Fr (At2 q.m q.k) w1 u1 := Fr.trans ((Fr.refl _ w1).alloc _).drew hg; have hz1 := Blk.fr (Blk.new w1 50 #[.int .i64 0, .int .i64 0, .int .i64 0, .int .i64 0]).drew hg (HFAR.out _ (by omega)); clear hg)
      | (go_at_call 202; (with_reducible refine (HO.out _ HF1.out.drew).mono ?_); rintro e u1 ⟨rfl, hb1, hg⟩; have ka1 : Fr (At2 q.m q.k) w1 u1 := Fr.trans (Fr.refl _ w1).drew hg; clear hg)
      | (go_at_call 197; (with_reducible refine (HAB.out _ hb1).mono ?_); rintro e u2 ⟨rfl, hb2, hg⟩; have ka2 : Fr (At2 q.m q.k) w1 u2 := Fr.trans ka1 hg; have hz2 := Blk.fr hz1 hg (HFAR.out _ (by omega)); clear hg; have y0 := hz2.cell 0; have y1 := hz2.cell 1; have y2 := hz2.cell 2; have y3 := hz2.cell 3; have z0 := hz2.frozen 0; have z1 := hz2.frozen 1; have z2 := hz2.frozen 2; have z3 := hz2.frozen 3; simp only [List.getElem?_toArray, List.getElem?_cons_zero, List.getElem?_cons_succ] at y0 y1 y2 y3; have hzl := hz2.lt)
      | (go_at_call 197; (with_reducible refine (HAB.out _ (hb1.no ((Fr.refl _ _).alloc _))).mono ?_); rintro e u2 ⟨rfl, hb2, hg⟩; have ka2 : Fr (At2 q.m q.k) w1 u2 := Fr.trans (ka1.alloc _) hg; have hu1 := ka1.size; have hz2 := Blk.fr (Blk.new u1 50 #[.int .i64 0, .int .i64 0, .int .i64 0, .int .i64 0]) hg (HFAR.out _ (by omega)); clear hg; have y0 := hz2.cell 0; have y1 := hz2.cell 1; have y2 := hz2.cell 2; have y3 := hz2.cell 3; have z0 := hz2.frozen 0; have z1 := hz2.frozen 1; have z2 := hz2.frozen 2; have z3 := hz2.frozen 3; simp only [List.getElem?_toArray, List.getElem?_cons_zero, List.getElem?_cons_succ] at y0 y1 y2 y3; have hzl := hz2.lt)
      | (go_at_call 197; (with_reducible refine (HAB.out _ hb1).mono ?_); rintro e u2 ⟨rfl, hb2, hg⟩; have ka2 : Fr (At2 q.m q.k) w1 u2 := Fr.trans ka1 hg; clear hg))
  · have hx : Blk (u2.alloc (.cells #[.int .i64 re, .int .i64 rh, .int .i64 rs, .int .i64 rn] 50)) u2.heap.size 50 #[.int .i64 re, .int .i64 rh, .int .i64 rs, .int .i64 rn] := Blk.new u2 50 _
    have hr := (HBR.out.fr ka2 (HFAR.out _ (by omega))).alloc (.cells #[.int .i64 re, .int .i64 rh, .int .i64 rs, .int .i64 rn] 50)
    have hgg : w.heap.size + 1 < u2.heap.size := by have := ka2.size; omega
    have HU := Lib.hid (did_of HH.out (g := u2.heap.size) (by omega) HF1.out ka2 hb2 ((Fr.refl _ u2).alloc (.cells #[.int .i64 re, .int .i64 rh, .int .i64 rs, .int .i64 rn] 50)))
    clear HX HFAR HAB HO hw1 HBR HF1
    generalize u2.alloc (.cells #[.int .i64 re, .int .i64 rh, .int .i64 rs, .int .i64 rn] 50) = u3 at *
    clear ka1 ka2 hb1 hb2
    try clear y0 y1 y2 y3 z0 z1 z2 z3 hz2 hzl
    try clear hz1
    try clear hu1
    generalize u2.heap.size = g at *
    by_cases h0 : re = 0
    · subst h0
      have hB := fr_set u3 g 3 (.int .i64 num)
      have hy := hx.set_ 3 (.int .i64 num)
      have hyr := hr.fr hB (fun e => by have : w.heap.size + 1 = g := e; omega)
      have hd := blk_set4 hyr (.int .i64 0) (.int .i64 rh) (.int .i64 rs) (.int .i64 num)
      have hC := fr_set4 (u3.setCell ⟨g, 3, none⟩ (.int .i64 num)) (w.heap.size + 1) (.int .i64 0) (.int .i64 rh) (.int .i64 rs) (.int .i64 num)
      have HD := Lib.hid (did_tail HH.out HU.out hB hC (by omega) (by omega))
      have HDD := Lib.hid hd
      have x0 := hx.cell 0
      have x3 := hx.cell 3
      have g3 := hx.frozen 3
      have y0 := hy.cell 0
      have y1 := hy.cell 1
      have y2 := hy.cell 2
      have y3 := hy.cell 3
      have r0 := hr.cell 0
      have r1 := hr.cell 1
      have r2 := hr.cell 2
      have r3 := hr.cell 3
      have f0 := hr.frozen 0
      have f1 := hr.frozen 1
      have f2 := hr.frozen 2
      have f3 := hr.frozen 3
      have hne : ¬ g = w.heap.size + 1 := by omega
      have hne' : ¬ w.heap.size + 1 = g := by omega
      simp only [List.getElem?_toArray, List.getElem?_cons_zero, List.getElem?_cons_succ, List.setIfInBounds_toArray, List.set_cons_succ, List.set_cons_zero] at x0 x3 y0 y1 y2 y3 r0 r1 r2 r3
      clear hx hr hy hyr hd hB hC HU
      go_wp2
      have hd := HDD.out
      have d0 := hd.cell 0
      have d1 := hd.cell 1
      have d2 := hd.cell 2
      have d3 := hd.cell 3
      simp only [List.getElem?_toArray, List.getElem?_cons_zero, List.getElem?_cons_succ] at d0 d1 d2 d3
      refine bodyPost_ret (v := .agg #[.int .i64 0, .int .i64 rh, .int .i64 rs, .int .i64 num]) (by simp [results, Tryz.results151, go_sem, d0, d1, d2, d3]) rfl ?_
      exact ⟨by unfold numR; rw [if_pos rfl]; rfl, HD.out⟩
    · have hz : (re == 0) = false := by simpa using h0
      have hC := fr_set4 u3 (w.heap.size + 1) (.int .i64 re) (.int .i64 rh) (.int .i64 rs) (.int .i64 rn)
      have hd := blk_set4 hr (.int .i64 re) (.int .i64 rh) (.int .i64 rs) (.int .i64 rn)
      have HD := Lib.hid (did_tail HH.out HU.out (Fr.refl (At1 g) u3) hC (by omega) (by omega))
      have HDD := Lib.hid hd
      have H0 := Lib.hid h0
      have x0 := hx.cell 0
      have x1 := hx.cell 1
      have x2 := hx.cell 2
      have x3 := hx.cell 3
      have r0 := hr.cell 0
      have r1 := hr.cell 1
      have r2 := hr.cell 2
      have r3 := hr.cell 3
      have f0 := hr.frozen 0
      have f1 := hr.frozen 1
      have f2 := hr.frozen 2
      have f3 := hr.frozen 3
      have hne : ¬ g = w.heap.size + 1 := by omega
      have hne' : ¬ w.heap.size + 1 = g := by omega
      simp only [List.getElem?_toArray, List.getElem?_cons_zero, List.getElem?_cons_succ] at x0 x1 x2 x3 r0 r1 r2 r3
      clear hx hr hd hC HU h0
      go_wp2
      have hd := HDD.out
      have d0 := hd.cell 0
      have d1 := hd.cell 1
      have d2 := hd.cell 2
      have d3 := hd.cell 3
      simp only [List.getElem?_toArray, List.getElem?_cons_zero, List.getElem?_cons_succ] at d0 d1 d2 d3
      refine bodyPost_ret (v := .agg #[.int .i64 re, .int .i64 rh, .int .i64 rs, .int .i64 rn]) (by simp [results, Tryz.results151, go_sem, d0, d1, d2, d3]) rfl ?_
      exact ⟨by unfold numR; rw [if_neg H0.out]; rfl, HD.out⟩
  · have hx : Blk ((((u2.setCell ⟨u1.heap.size, 0, none⟩ (.int .i64 re)).setCell ⟨u1.heap.size, 1, none⟩ (.int .i64 rh)).setCell ⟨u1.heap.size, 2, none⟩ (.int .i64 rs)).setCell ⟨u1.heap.size, 3, none⟩ (.int .i64 rn)) u1.heap.size 50 #[.int .i64 re, .int .i64 rh, .int .i64 rs, .int .i64 rn] := blk_set4 hz2 (.int .i64 re) (.int .i64 rh) (.int .i64 rs) (.int .i64 rn)
    have hr := (HBR.out.fr ka2 (HFAR.out _ (by omega))).fr (fr_set4 u2 (u1.heap.size) (.int .i64 re) (.int .i64 rh) (.int .i64 rs) (.int .i64 rn)) (fun e => by have : w.heap.size + 1 = u1.heap.size := e; omega)
    have hgg : w.heap.size + 1 < u1.heap.size := by omega
    have HU := Lib.hid (did_of HH.out (g := u1.heap.size) (by omega) HF1.out ka2 hb2 (fr_set4 u2 (u1.heap.size) (.int .i64 re) (.int .i64 rh) (.int .i64 rs) (.int .i64 rn)))
    clear HX HFAR HAB HO hw1 HBR HF1
    generalize (((u2.setCell ⟨u1.heap.size, 0, none⟩ (.int .i64 re)).setCell ⟨u1.heap.size, 1, none⟩ (.int .i64 rh)).setCell ⟨u1.heap.size, 2, none⟩ (.int .i64 rs)).setCell ⟨u1.heap.size, 3, none⟩ (.int .i64 rn) = u3 at *
    clear ka1 ka2 hb1 hb2
    try clear y0 y1 y2 y3 z0 z1 z2 z3 hz2 hzl
    try clear hz1
    try clear hu1
    generalize u1.heap.size = g at *
    by_cases h0 : re = 0
    · subst h0
      have hB := fr_set u3 g 3 (.int .i64 num)
      have hy := hx.set_ 3 (.int .i64 num)
      have hyr := hr.fr hB (fun e => by have : w.heap.size + 1 = g := e; omega)
      have hd := blk_set4 hyr (.int .i64 0) (.int .i64 rh) (.int .i64 rs) (.int .i64 num)
      have hC := fr_set4 (u3.setCell ⟨g, 3, none⟩ (.int .i64 num)) (w.heap.size + 1) (.int .i64 0) (.int .i64 rh) (.int .i64 rs) (.int .i64 num)
      have HD := Lib.hid (did_tail HH.out HU.out hB hC (by omega) (by omega))
      have HDD := Lib.hid hd
      have x0 := hx.cell 0
      have x3 := hx.cell 3
      have g3 := hx.frozen 3
      have y0 := hy.cell 0
      have y1 := hy.cell 1
      have y2 := hy.cell 2
      have y3 := hy.cell 3
      have r0 := hr.cell 0
      have r1 := hr.cell 1
      have r2 := hr.cell 2
      have r3 := hr.cell 3
      have f0 := hr.frozen 0
      have f1 := hr.frozen 1
      have f2 := hr.frozen 2
      have f3 := hr.frozen 3
      have hne : ¬ g = w.heap.size + 1 := by omega
      have hne' : ¬ w.heap.size + 1 = g := by omega
      simp only [List.getElem?_toArray, List.getElem?_cons_zero, List.getElem?_cons_succ, List.setIfInBounds_toArray, List.set_cons_succ, List.set_cons_zero] at x0 x3 y0 y1 y2 y3 r0 r1 r2 r3
      clear hx hr hy hyr hd hB hC HU
      go_wp2
      have hd := HDD.out
      have d0 := hd.cell 0
      have d1 := hd.cell 1
      have d2 := hd.cell 2
      have d3 := hd.cell 3
      simp only [List.getElem?_toArray, List.getElem?_cons_zero, List.getElem?_cons_succ] at d0 d1 d2 d3
      refine bodyPost_ret (v := .agg #[.int .i64 0, .int .i64 rh, .int .i64 rs, .int .i64 num]) (by simp [results, Tryz.results151, go_sem, d0, d1, d2, d3]) rfl ?_
      exact ⟨by unfold numR; rw [if_pos rfl]; rfl, HD.out⟩
    · have hz : (re == 0) = false := by simpa using h0
      have hC := fr_set4 u3 (w.heap.size + 1) (.int .i64 re) (.int .i64 rh) (.int .i64 rs) (.int .i64 rn)
      have hd := blk_set4 hr (.int .i64 re) (.int .i64 rh) (.int .i64 rs) (.int .i64 rn)
      have HD := Lib.hid (did_tail HH.out HU.out (Fr.refl (At1 g) u3) hC (by omega) (by omega))
      have HDD := Lib.hid hd
      have H0 := Lib.hid h0
      have x0 := hx.cell 0
      have x1 := hx.cell 1
      have x2 := hx.cell 2
      have x3 := hx.cell 3
      have r0 := hr.cell 0
      have r1 := hr.cell 1
      have r2 := hr.cell 2
      have r3 := hr.cell 3
      have f0 := hr.frozen 0
      have f1 := hr.frozen 1
      have f2 := hr.frozen 2
      have f3 := hr.frozen 3
      have hne : ¬ g = w.heap.size + 1 := by omega
      have hne' : ¬ w.heap.size + 1 = g := by omega
      simp only [List.getElem?_toArray, List.getElem?_cons_zero, List.getElem?_cons_succ] at x0 x1 x2 x3 r0 r1 r2 r3
      clear hx hr hd hC HU h0
      go_wp2
      have hd := HDD.out
      have d0 := hd.cell 0
      have d1 := hd.cell 1
      have d2 := hd.cell 2
      have d3 := hd.cell 3
      simp only [List.getElem?_toArray, List.getElem?_cons_zero, List.getElem?_cons_succ] at d0 d1 d2 d3
      refine bodyPost_ret (v := .agg #[.int .i64 re, .int .i64 rh, .int .i64 rs, .int .i64 rn]) (by simp [results, Tryz.results151, go_sem, d0, d1, d2, d3]) rfl ?_
      exact ⟨by unfold numR; rw [if_neg H0.out]; rfl, HD.out⟩
  · have hx : Blk ((((u2.setCell ⟨w1.heap.size, 0, none⟩ (.int .i64 re)).setCell ⟨w1.heap.size, 1, none⟩ (.int .i64 rh)).setCell ⟨w1.heap.size, 2, none⟩ (.int .i64 rs)).setCell ⟨w1.heap.size, 3, none⟩ (.int .i64 rn)) w1.heap.size 50 #[.int .i64 re, .int .i64 rh, .int .i64 rs, .int .i64 rn] := blk_set4 hz2 (.int .i64 re) (.int .i64 rh) (.int .i64 rs) (.int .i64 rn)
    have hr := (HBR.out.fr ka2 (HFAR.out _ (by omega))).fr (fr_set4 u2 (w1.heap.size) (.int .i64 re) (.int .i64 rh) (.int .i64 rs) (.int .i64 rn)) (fun e => by have : w.heap.size + 1 = w1.heap.size := e; omega)
    have hgg : w.heap.size + 1 < w1.heap.size := hsz
    have HU := Lib.hid (did_of HH.out (g := w1.heap.size) (by omega) HF1.out ka2 hb2 (fr_set4 u2 (w1.heap.size) (.int .i64 re) (.int .i64 rh) (.int .i64 rs) (.int .i64 rn)))
    clear HX HFAR HAB HO hw1 HBR HF1
    generalize (((u2.setCell ⟨w1.heap.size, 0, none⟩ (.int .i64 re)).setCell ⟨w1.heap.size, 1, none⟩ (.int .i64 rh)).setCell ⟨w1.heap.size, 2, none⟩ (.int .i64 rs)).setCell ⟨w1.heap.size, 3, none⟩ (.int .i64 rn) = u3 at *
    clear ka1 ka2 hb1 hb2
    try clear y0 y1 y2 y3 z0 z1 z2 z3 hz2 hzl
    try clear hz1
    try clear hu1
    generalize w1.heap.size = g at *
    by_cases h0 : re = 0
    · subst h0
      have hB := fr_set u3 g 3 (.int .i64 num)
      have hy := hx.set_ 3 (.int .i64 num)
      have hyr := hr.fr hB (fun e => by have : w.heap.size + 1 = g := e; omega)
      have hd := blk_set4 hyr (.int .i64 0) (.int .i64 rh) (.int .i64 rs) (.int .i64 num)
      have hC := fr_set4 (u3.setCell ⟨g, 3, none⟩ (.int .i64 num)) (w.heap.size + 1) (.int .i64 0) (.int .i64 rh) (.int .i64 rs) (.int .i64 num)
      have HD := Lib.hid (did_tail HH.out HU.out hB hC (by omega) (by omega))
      have HDD := Lib.hid hd
      have x0 := hx.cell 0
      have x3 := hx.cell 3
      have g3 := hx.frozen 3
      have y0 := hy.cell 0
      have y1 := hy.cell 1
      have y2 := hy.cell 2
      have y3 := hy.cell 3
      have r0 := hr.cell 0
      have r1 := hr.cell 1
      have r2 := hr.cell 2
      have r3 := hr.cell 3
      have f0 := hr.frozen 0
      have f1 := hr.frozen 1
      have f2 := hr.frozen 2
      have f3 := hr.frozen 3
      have hne : ¬ g = w.heap.size + 1 := by omega
      have hne' : ¬ w.heap.size + 1 = g := by omega
      simp only [List.getElem?_toArray, List.getElem?_cons_zero, List.getElem?_cons_succ, List.setIfInBounds_toArray, List.set_cons_succ, List.set_cons_zero] at x0 x3 y0 y1 y2 y3 r0 r1 r2 r3
      clear hx hr hy hyr hd hB hC HU
      go_wp2
      have hd := HDD.out
      have d0 := hd.cell 0
      have d1 := hd.cell 1
      have d2 := hd.cell 2
      have d3 := hd.cell 3
      simp only [List.getElem?_toArray, List.getElem?_cons_zero, List.getElem?_cons_succ] at d0 d1 d2 d3
      refine bodyPost_ret (v := .agg #[.int .i64 0, .int .i64 rh, .int .i64 rs, .int .i64 num]) (by simp [results, Tryz.results151, go_sem, d0, d1, d2, d3]) rfl ?_
      exact ⟨by unfold numR; rw [if_pos rfl]; rfl, HD.out⟩
    · have hz : (re == 0) = false := by simpa using h0
      have hC := fr_set4 u3 (w.heap.size + 1) (.int .i64 re) (.int .i64 rh) (.int .i64 rs) (.int .i64 rn)
      have hd := blk_set4 hr (.int .i64 re) (.int .i64 rh) (.int .i64 rs) (.int .i64 rn)
      have HD := Lib.hid (did_tail HH.out HU.out (Fr.refl (At1 g) u3) hC (by omega) (by omega))
      have HDD := Lib.hid hd
      have H0 := Lib.hid h0
      have x0 := hx.cell 0
      have x1 := hx.cell 1
      have x2 := hx.cell 2
      have x3 := hx.cell 3
      have r0 := hr.cell 0
      have r1 := hr.cell 1
      have r2 := hr.cell 2
      have r3 := hr.cell 3
      have f0 := hr.frozen 0
      have f1 := hr.frozen 1
      have f2 := hr.frozen 2
      have f3 := hr.frozen 3
      have hne : ¬ g = w.heap.size + 1 := by omega
      have hne' : ¬ w.heap.size + 1 = g := by omega
      simp only [List.getElem?_toArray, List.getElem?_cons_zero, List.getElem?_cons_succ] at x0 x1 x2 x3 r0 r1 r2 r3
      clear hx hr hd hC HU h0
      go_wp2
      have hd := HDD.out
      have d0 := hd.cell 0
      have d1 := hd.cell 1
      have d2 := hd.cell 2
      have d3 := hd.cell 3
      simp only [List.getElem?_toArray, List.getElem?_cons_zero, List.getElem?_cons_succ] at d0 d1 d2 d3
      refine bodyPost_ret (v := .agg #[.int .i64 re, .int .i64 rh, .int .i64 rs, .int .i64 rn]) (by simp [results, Tryz.results151, go_sem, d0, d1, d2, d3]) rfl ?_
      exact ⟨by unfold numR; rw [if_neg H0.out]; rfl, HD.out⟩
end Go.Proofs.YtcpgamidimfflaaGreat
namespace Go.Proofs.YtcpgamidimfflaaGreat
open Go.RowKit Go.My Go.Maps
set_option linter.unusedSimpArgs false
set_option linter.unusedVariables false
attribute [local go_sem ↓] Go.wp_at_zero Go.wp_at_succ
def fnB (f : FuncId) : Value := .func (.func f) #[] #[]
def effF (k : Int) : Option Value :=
  if k = 7 then some (fnB 155)
  else if k = 6 then some (fnB 154)
  else if k = 5 then some (fnB 153)
  else if k = 4 then some (fnB 152)
  else if k = 3 then some (fnB 151)
  else if k = 2 then some (fnB 150)
  else if k = 1 then some (fnB 149)
  else none
set_option maxRecDepth 100000 in
set_option maxHeartbeats 1000000 in
theorem effects_any (w : World) : Calls Tryz.prog 105 #[] w fun e w' => ∃ m, e = .returned (.map (some m)) ∧ Tab Tryz.prog 3 w' m 7 effF ∧ Fr No w w' := by
  have HT : Hid (Tab Tryz.prog 3 (w.alloc (.map #[] 0)) w.heap.size 0 (fun _ => none)) := Tab.made w
  have HM : Hid (Fr No w (w.alloc (.map #[] 0))) := (Fr.refl _ _).alloc _
  have hmk := @run_makeMap Tryz.prog
  obtain ⟨u0, hr0, hT0, hf0⟩ := HT.out.put Tryz.underlying3 Tryz.underlying180 (by unfold maxLen; omega) 1 (by unfold In64; omega) (fnB 149)
  obtain ⟨u1, hr1, hT1, hf1⟩ := hT0.put Tryz.underlying3 Tryz.underlying180 (by unfold maxLen; omega) 2 (by unfold In64; omega) (fnB 150)
  obtain ⟨u2, hr2, hT2, hf2⟩ := hT1.put Tryz.underlying3 Tryz.underlying180 (by unfold maxLen; omega) 3 (by unfold In64; omega) (fnB 151)
  obtain ⟨u3, hr3, hT3, hf3⟩ := hT2.put Tryz.underlying3 Tryz.underlying180 (by unfold maxLen; omega) 4 (by unfold In64; omega) (fnB 152)
  obtain ⟨u4, hr4, hT4, hf4⟩ := hT3.put Tryz.underlying3 Tryz.underlying180 (by unfold maxLen; omega) 5 (by unfold In64; omega) (fnB 153)
  obtain ⟨u5, hr5, hT5, hf5⟩ := hT4.put Tryz.underlying3 Tryz.underlying180 (by unfold maxLen; omega) 6 (by unfold In64; omega) (fnB 154)
  obtain ⟨u6, hr6, hT6, hf6⟩ := hT5.put Tryz.underlying3 Tryz.underlying180 (by unfold maxLen; omega) 7 (by unfold In64; omega) (fnB 155)
  have HF : Hid (Fr No w u6) := HM.out.trans' (((((((hf0.trans hf1).trans hf2).trans hf3).trans hf4).trans hf5).trans hf6)) (fun i hi hlt => by have : i = w.heap.size := hi; omega)
  have HT6 := Lib.hid hT6
  simp only [fnB] at hr0 hr1 hr2 hr3 hr4 hr5 hr6
  clear HT HM hT0 hT1 hT2 hT3 hT4 hT5 hT6 hf0 hf1 hf2 hf3 hf4 hf5 hf6
  go_enter Tryz.func105, Tryz.ntmps105
  go_wp2
  go_ret
  exact ⟨_, rfl, HT6.out, HF.out⟩
theorem right_legs {o : Od} (h : rightO o = true) (hk : o.kd = 2) : rightB o.legs = true := by
  unfold rightO at h
  simp only [Bool.and_eq_true, decide_eq_true_eq] at h
  obtain ⟨-, -, -, -, -, -, hl, -⟩ := h
  unfold legsB at hl
  rw [if_pos hk] at hl
  exact hl
def DoesK (q : Pl) (b : Bk) (o : Od) (v : Value) (f : FuncId) (w : World) : Prop := ∀ W, Fr No w W → Calls Tryz.prog f #[.pointer (some ⟨q.p, 0, none⟩), o.val v] W (DidB q (effR b o) (effB b o) W)
theorem does_k (F : Nat → Prop) (q : Pl) (b : Bk) (o : Od) (v : Value) (w : World) (h : BkS w q b) (ho : o.ok) (hv : LgS w F v o.legs) (hF : ∀ k, F k → k < w.heap.size ∧ k ≠ q.m) (hr : rightO o = true) :
    ∃ f, effF o.kd = some (fnB f) ∧ DoesK q b o v f w ∧ (f = 155 ∨ f = 154 ∨ f = 153 ∨ f = 152 ∨ f = 151 ∨ f = 150 ∨ f = 149) := by
  obtain ⟨⟨k1, k7⟩, -⟩ := right_kd hr
  have hk : o.kd = 1 ∨ o.kd = 2 ∨ o.kd = 3 ∨ o.kd = 4 ∨ o.kd = 5 ∨ o.kd = 6 ∨ o.kd = 7 := by omega
  rcases hk with hk | hk | hk | hk | hk | hk | hk
  · exact ⟨_, by rw [hk]; rfl, fun W hW => bopen_any q b o v W (h.no hW) ho hr hk, by simp⟩
  · refine ⟨_, by rw [hk]; rfl, fun W hW => ?_, by simp⟩
    by_cases hc : o.per ≤ b.cl
    · exact bpost_closed q b o v W (h.no hW) hk hc
    · refine bpost_any q b o v W (h.no hW) ho hr hk F (hv.no hW) (fun k hk => ⟨Nat.lt_of_lt_of_le (hF k hk).1 hW.size, (hF k hk).2⟩) ?_ hc
      have := rightB_six (right_legs hr hk)
      omega
  · exact ⟨_, by rw [hk]; rfl, fun W hW => bhold_any q b o v W (h.no hW) ho hr hk, by simp⟩
  · refine ⟨_, by rw [hk]; rfl, fun W hW => ?_, by simp⟩
    by_cases hc : o.per ≤ b.cl
    · exact bcapture_closed q b o v W (h.no hW) hk hc
    · exact bcapture_any q b o v W (h.no hW) ho hr hk hc
  · exact ⟨_, by rw [hk]; rfl, fun W hW => brelease_any q b o v W (h.no hW) ho hr hk, by simp⟩
  · refine ⟨_, by rw [hk]; rfl, fun W hW => ?_, by simp⟩
    by_cases hc : o.per ≤ b.cl
    · exact bclose_closed q b o v W (h.no hW) hk hc
    · exact bclose_any q b o v W (h.no hW) ho hr hk hc
  · exact ⟨_, by rw [hk]; rfl, fun W hW => bask_any q b o v W (h.no hW) ho hk, by simp⟩
theorem kb_ask (args : Array Value) (W : World) : (callFunc 155 args).run Tryz.prog W = .ok (.enter 155 args) W := by kernel_rfl
theorem kb_close (args : Array Value) (W : World) : (callFunc 154 args).run Tryz.prog W = .ok (.enter 154 args) W := by kernel_rfl
theorem kb_release (args : Array Value) (W : World) : (callFunc 153 args).run Tryz.prog W = .ok (.enter 153 args) W := by kernel_rfl
theorem kb_capture (args : Array Value) (W : World) : (callFunc 152 args).run Tryz.prog W = .ok (.enter 152 args) W := by kernel_rfl
theorem kb_hold (args : Array Value) (W : World) : (callFunc 151 args).run Tryz.prog W = .ok (.enter 151 args) W := by kernel_rfl
theorem kb_post (args : Array Value) (W : World) : (callFunc 150 args).run Tryz.prog W = .ok (.enter 150 args) W := by kernel_rfl
theorem kb_open (args : Array Value) (W : World) : (callFunc 149 args).run Tryz.prog W = .ok (.enter 149 args) W := by kernel_rfl
theorem k_of {f : FuncId} (h : f = 155 ∨ f = 154 ∨ f = 153 ∨ f = 152 ∨ f = 151 ∨ f = 150 ∨ f = 149) (args : Array Value) (W : World) : (callFunc f args).run Tryz.prog W = .ok (.enter f args) W := by
  rcases h with rfl | rfl | rfl | rfl | rfl | rfl | rfl
  · exact kb_ask args W
  · exact kb_close args W
  · exact kb_release args W
  · exact kb_capture args W
  · exact kb_hold args W
  · exact kb_post args W
  · exact kb_open args W
theorem doR_ret (b : Bk) (o : Od) (h : rightO o = false) : doR b o = errR 1 ∧ doB b o = b := by
  unfold doR doB
  rw [h]
  exact ⟨rfl, rfl⟩
theorem doR_eff (b : Bk) (o : Od) (h : rightO o = true) : doR b o = effR b o ∧ doB b o = effB b o := by
  unfold doR doB
  rw [h]
  exact ⟨rfl, rfl⟩
def Pl.wrr (q : Pl) (g : Nat) : Nat → Prop := fun i => q.wr i ∨ i = g
theorem zeroF (w : World) : (zeroValue 179).run Tryz.prog w = .ok (.nilFunc) w := by kernel_rfl
set_option maxRecDepth 100000 in
set_option maxHeartbeats 2000000 in
theorem do_any (F : Nat → Prop) (q : Pl) (b : Bk) (o : Od) (v : Value) (w : World) (h : BkS w q b) (ho : o.ok) (hv : LgS w F v o.legs) (hF : ∀ k, F k → k < w.heap.size ∧ k ≠ q.m) :
    Calls Tryz.prog 75 #[.pointer (some ⟨q.p, 0, none⟩), o.val v] w (DidB q (doR b o) (doB b o) w) := by
  have HRT : Hid (∀ W, Fr No w W → Calls Tryz.prog 45 #[o.val v] W fun e w' => e = .returned (.bool (rightO o)) ∧ Fr No W w') := fun W hW => rightO_any F o v W ho (hv.no hW)
  have HH := Lib.hid h
  have hkd := ho.2.2.1
  cases hr : rightO o with
  | false =>
    obtain ⟨e1, e2⟩ := doR_ret b o hr
    rw [e1, e2]
    rw [hr] at HRT
    clear e1 e2 hr h ho hv hF hkd
    obtain ⟨ocl, osq, okd, oac, ope, osm, olg, opr, ohd, ont⟩ := o
    unfold Od.val Od.cs at *
    simp only at HRT ⊢
    have hbo := Blk.new w 35 #[.int .i64 ocl, .int .i64 osq, .int .i64 okd, .string oac, .string ope, .int .i64 osm, v, .int .i64 opr, .int .i64 ohd, .string ont]
    have hbr := Blk.new (w.alloc (.cells #[.int .i64 ocl, .int .i64 osq, .int .i64 okd, .string oac, .string ope, .int .i64 osm, v, .int .i64 opr, .int .i64 ohd, .string ont] 35)) 50 #[.int .i64 0, .int .i64 0, .int .i64 0, .int .i64 0]
    rw [World.size_alloc] at hbr
    have hbo1 := hbo.alloc (.cells #[.int .i64 0, .int .i64 0, .int .i64 0, .int .i64 0] 50)
    have hf1 : Fr No w ((w.alloc (.cells #[.int .i64 ocl, .int .i64 osq, .int .i64 okd, .string oac, .string ope, .int .i64 osm, v, .int .i64 opr, .int .i64 ohd, .string ont] 35)).alloc (.cells #[.int .i64 0, .int .i64 0, .int .i64 0, .int .i64 0] 50)) := ((Fr.refl _ _).alloc _).alloc _
    have o0 := hbo1.cell 0
    have o1 := hbo1.cell 1
    have o2 := hbo1.cell 2
    have o3 := hbo1.cell 3
    have o4 := hbo1.cell 4
    have o5 := hbo1.cell 5
    have o6 := hbo1.cell 6
    have o7 := hbo1.cell 7
    have o8 := hbo1.cell 8
    have o9 := hbo1.cell 9
    simp only [List.getElem?_toArray, List.getElem?_cons_zero, List.getElem?_cons_succ] at o0 o1 o2 o3 o4 o5 o6 o7 o8 o9
    clear hbo hbo1
    go_enter Tryz.func75, Tryz.ntmps75
    go_wp2_with fail
    (with_reducible refine (HRT.out _ hf1).mono ?_)
    rintro e u2 ⟨rfl, hg⟩
    have hr2 := hbr.fr hg (fun h => h)
    have hd := blk_set4 hr2 (.int .i64 1) (.int .i64 0) (.int .i64 0) (.int .i64 0)
    have HF2 : Hid (Fr No w u2) := hf1.trans hg
    have HC := fr_set4 u2 (w.heap.size + 1) (.int .i64 1) (.int .i64 0) (.int .i64 0) (.int .i64 0)
    have HD := Lib.hid (did_tail HH.out ⟨HH.out.no HF2.out, HF2.out.mono fun _ _ h => False.elim h⟩ (Fr.refl (At1 (w.heap.size + 1)) u2) HC (Nat.le_succ _) (Nat.le_succ _))
    have HDD := Lib.hid hd
    have r0 := hr2.cell 0
    have r1 := hr2.cell 1
    have r2 := hr2.cell 2
    have r3 := hr2.cell 3
    have f0 := hr2.frozen 0
    have f1 := hr2.frozen 1
    have f2 := hr2.frozen 2
    have f3 := hr2.frozen 3
    simp only [List.getElem?_toArray, List.getElem?_cons_zero, List.getElem?_cons_succ] at r0 r1 r2 r3
    clear o0 o1 o2 o3 o4 o5 o6 o7 o8 o9 hbr hf1 hg hr2 hd HC HRT
    go_wp2
    have hd := HDD.out
    have d0 := hd.cell 0
    have d1 := hd.cell 1
    have d2 := hd.cell 2
    have d3 := hd.cell 3
    simp only [List.getElem?_toArray, List.getElem?_cons_zero, List.getElem?_cons_succ] at d0 d1 d2 d3
    refine bodyPost_ret (v := .agg #[.int .i64 1, .int .i64 0, .int .i64 0, .int .i64 0]) (by simp [results, Tryz.results75, go_sem, d0, d1, d2, d3]) rfl ?_
    exact ⟨rfl, HD.out⟩
  | true =>
    obtain ⟨e1, e2⟩ := doR_eff b o hr
    rw [e1, e2]
    obtain ⟨f, hef, hdk, hfs⟩ := does_k F q b o v w h ho hv hF hr
    have HDK := Lib.hid hdk
    have hcf := k_of hfs
    have HLK : Hid (∀ m W, Tab Tryz.prog 3 W m 7 effF → (Instr.lookup 180 (.map (some m)) (.int .i64 o.kd) false).run Tryz.prog W = .ok (.func (.func f) #[] #[]) W) := fun m W h => by
      have h1 := h.look Tryz.underlying3 Tryz.underlying180 (zeroF W) o.kd hkd
      rw [hef] at h1
      exact h1
    rw [hr] at HRT
    obtain ⟨re, rh, rs, rn, hR⟩ : ∃ x y z t, effR b o = ⟨x, y, z, t⟩ := ⟨_, _, _, _, rfl⟩
    unfold DoesK at HDK
    rw [hR] at HDK
    rw [hR]
    generalize effB b o = b' at *
    clear e1 e2 hr h ho hv hF hkd hef hdk hfs hR
    obtain ⟨ocl, osq, okd, oac, ope, osm, olg, opr, ohd, ont⟩ := o
    unfold Od.val Od.cs at *
    simp only at HRT HDK HLK ⊢
    have HDX : Hid (∀ W, Fr No w W → Calls Tryz.prog f #[.pointer (some ⟨q.p, 0, none⟩), .agg #[.int .i64 ocl, .int .i64 osq, .int .i64 okd, .string oac, .string ope, .int .i64 osm, v, .int .i64 opr, .int .i64 ohd, .string ont]] W fun e w' => e = .returned (.agg #[.int .i64 re, .int .i64 rh, .int .i64 rs, .int .i64 rn]) ∧ BkS w' q b' ∧ Fr q.wr W w') := fun W hW => HDK.out W hW
    clear HDK
    have hbo := Blk.new w 35 #[.int .i64 ocl, .int .i64 osq, .int .i64 okd, .string oac, .string ope, .int .i64 osm, v, .int .i64 opr, .int .i64 ohd, .string ont]
    have hbr := Blk.new (w.alloc (.cells #[.int .i64 ocl, .int .i64 osq, .int .i64 okd, .string oac, .string ope, .int .i64 osm, v, .int .i64 opr, .int .i64 ohd, .string ont] 35)) 50 #[.int .i64 0, .int .i64 0, .int .i64 0, .int .i64 0]
    rw [World.size_alloc] at hbr
    have hbo1 := hbo.alloc (.cells #[.int .i64 0, .int .i64 0, .int .i64 0, .int .i64 0] 50)
    have hf1 : Fr No w ((w.alloc (.cells #[.int .i64 ocl, .int .i64 osq, .int .i64 okd, .string oac, .string ope, .int .i64 osm, v, .int .i64 opr, .int .i64 ohd, .string ont] 35)).alloc (.cells #[.int .i64 0, .int .i64 0, .int .i64 0, .int .i64 0] 50)) := ((Fr.refl _ _).alloc _).alloc _
    have HX0 : Hid (∀ W, Fr No ((w.alloc (.cells #[.int .i64 ocl, .int .i64 osq, .int .i64 okd, .string oac, .string ope, .int .i64 osm, v, .int .i64 opr, .int .i64 ohd, .string ont] 35)).alloc (.cells #[.int .i64 0, .int .i64 0, .int .i64 0, .int .i64 0] 50)) W → W.cell? ⟨w.heap.size, 0, none⟩ = some (.int .i64 ocl) ∧ W.cell? ⟨w.heap.size, 1, none⟩ = some (.int .i64 osq) ∧ W.cell? ⟨w.heap.size, 2, none⟩ = some (.int .i64 okd) ∧ W.cell? ⟨w.heap.size, 3, none⟩ = some (.string oac) ∧ W.cell? ⟨w.heap.size, 4, none⟩ = some (.string ope) ∧ W.cell? ⟨w.heap.size, 5, none⟩ = some (.int .i64 osm) ∧ W.cell? ⟨w.heap.size, 6, none⟩ = some (v) ∧ W.cell? ⟨w.heap.size, 7, none⟩ = some (.int .i64 opr) ∧ W.cell? ⟨w.heap.size, 8, none⟩ = some (.int .i64 ohd) ∧ W.cell? ⟨w.heap.size, 9, none⟩ = some (.string ont)) := fun W hW => by
      have h1 := hbo1.fr hW (fun h => h)
      exact ⟨h1.cell 0, h1.cell 1, h1.cell 2, h1.cell 3, h1.cell 4, h1.cell 5, h1.cell 6, h1.cell 7, h1.cell 8, h1.cell 9⟩
    obtain ⟨o0, o1, o2, o3, o4, o5, o6, o7, o8, o9⟩ := HX0.out _ (Fr.refl _ _)
    clear hbo
    go_enter Tryz.func75, Tryz.ntmps75
    go_wp2_with fail
    (with_reducible refine (HRT.out _ hf1).mono ?_)
    rintro e w2 ⟨rfl, hg⟩
    have hr2 := hbr.fr hg (fun h => h)
    have hbo2 := hbo1.fr hg (fun h => h)
    have hf2 := hf1.trans hg
    clear o0 o1 o2 o3 o4 o5 o6 o7 o8 o9 HX0 hbo1 hbr hf1 hg HRT
    go_upto_region 3 with (fail)
    have HF2 := Lib.hid hf2
    have HR2 := Lib.hid hr2
    have HX : Hid (∀ W, Fr (q.wrr (w.heap.size + 1)) w2 W → Fr (q.wrr (w.heap.size + 1)) w2 W ∧ W.cell? ⟨w.heap.size, 0, none⟩ = some (.int .i64 ocl) ∧ W.cell? ⟨w.heap.size, 1, none⟩ = some (.int .i64 osq) ∧ W.cell? ⟨w.heap.size, 2, none⟩ = some (.int .i64 okd) ∧ W.cell? ⟨w.heap.size, 3, none⟩ = some (.string oac) ∧ W.cell? ⟨w.heap.size, 4, none⟩ = some (.string ope) ∧ W.cell? ⟨w.heap.size, 5, none⟩ = some (.int .i64 osm) ∧ W.cell? ⟨w.heap.size, 6, none⟩ = some (v) ∧ W.cell? ⟨w.heap.size, 7, none⟩ = some (.int .i64 opr) ∧ W.cell? ⟨w.heap.size, 8, none⟩ = some (.int .i64 ohd) ∧ W.cell? ⟨w.heap.size, 9, none⟩ = some (.string ont)) := fun W hW => by
      have h1 := hbo2.fr hW (fun e => by rcases e with e | e; exact Pl.far HH.out (Nat.le_refl _) e; omega)
      exact ⟨hW, h1.cell 0, h1.cell 1, h1.cell 2, h1.cell 3, h1.cell 4, h1.cell 5, h1.cell 6, h1.cell 7, h1.cell 8, h1.cell 9⟩
    have HFAR : Hid (¬ q.wr (w.heap.size + 1)) := Pl.far HH.out (Nat.le_succ _)
    have hw2 : Fr (q.wrr (w.heap.size + 1)) w2 w2.drew := (Fr.refl _ w2).drew
    clear hbo2 hf2 hr2
    have HEF := Lib.hid (fun W => effects_any W)
    go_region_held3 (fun W => Fr (q.wrr (w.heap.size + 1)) w2 W ∧ W.cell? ⟨w.heap.size, 0, none⟩ = some (.int .i64 ocl) ∧ W.cell? ⟨w.heap.size, 1, none⟩ = some (.int .i64 osq) ∧ W.cell? ⟨w.heap.size, 2, none⟩ = some (.int .i64 okd) ∧ W.cell? ⟨w.heap.size, 3, none⟩ = some (.string oac) ∧ W.cell? ⟨w.heap.size, 4, none⟩ = some (.string ope) ∧ W.cell? ⟨w.heap.size, 5, none⟩ = some (.int .i64 osm) ∧ W.cell? ⟨w.heap.size, 6, none⟩ = some (v) ∧ W.cell? ⟨w.heap.size, 7, none⟩ = some (.int .i64 opr) ∧ W.cell? ⟨w.heap.size, 8, none⟩ = some (.int .i64 ohd) ∧ W.cell? ⟨w.heap.size, 9, none⟩ = some (.string ont))
      (first
        | (refine HX.out _ ?_; with_reducible assumption)
        | (refine HX.out _ (Fr.trans ?_ ((fr_set4 _ _ _ _ _ _).mono fun _ _ h => .inr h)); with_reducible assumption))
      (first
        | (go_at_call 105; (with_reducible refine (HEF.out _).mono ?_); rintro e u1 ⟨m, rfl, hT, hg⟩; have hlk := HLK.out m _ hT; have ka1 : Fr No w2 u1 := Fr.trans (Fr.refl _ w2).drew hg; have kb1 : Fr (q.wrr (w.heap.size + 1)) w2 u1 := ka1.mono (fun _ _ h => False.elim h); clear hg hT)
        | ((with_reducible refine (HDX.out _ (HF2.out.trans ka1)).mono ?_); rintro e u2 ⟨rfl, hb2, hg⟩; have ka2 : Fr q.wr w2 u2 := Fr.trans (ka1.mono (fun _ _ h => False.elim h)) hg; have kb2 : Fr (q.wrr (w.heap.size + 1)) w2 u2 := ka2.mono (fun _ _ h => .inl h); clear hg; have hz2 := HR2.out.fr ka2 HFAR.out; have c0 := hz2.cell 0; have c1 := hz2.cell 1; have c2 := hz2.cell 2; have c3 := hz2.cell 3; have f0 := hz2.frozen 0; have f1 := hz2.frozen 1; have f2 := hz2.frozen 2; have f3 := hz2.frozen 3; simp only [List.getElem?_toArray, List.getElem?_cons_zero, List.getElem?_cons_succ] at c0 c1 c2 c3))
    all_goals
      have hd := blk_set4 hz2 (.int .i64 re) (.int .i64 rh) (.int .i64 rs) (.int .i64 rn)
      have HD := Lib.hid (did_tail HH.out ⟨hb2, (HF2.out.mono (T := q.wr) fun _ _ h => False.elim h).trans ka2⟩ (Fr.refl (At1 (w.heap.size + 1)) u2) (fr_set4 u2 (w.heap.size + 1) (.int .i64 re) (.int .i64 rh) (.int .i64 rs) (.int .i64 rn)) (Nat.le_succ _) (Nat.le_succ _))
      clear c0 c1 c2 c3 f0 f1 f2 f3 hz2 HX hcf hlk
      generalize (((u2.setCell ⟨w.heap.size + 1, 0, none⟩ (.int .i64 re)).setCell ⟨w.heap.size + 1, 1, none⟩ (.int .i64 rh)).setCell ⟨w.heap.size + 1, 2, none⟩ (.int .i64 rs)).setCell ⟨w.heap.size + 1, 3, none⟩ (.int .i64 rn) = u3 at *
      have d0 := hd.cell 0
      have d1 := hd.cell 1
      have d2 := hd.cell 2
      have d3 := hd.cell 3
      simp only [List.getElem?_toArray, List.getElem?_cons_zero, List.getElem?_cons_succ] at d0 d1 d2 d3
      go_wp2
      refine bodyPost_ret (v := .agg #[.int .i64 re, .int .i64 rh, .int .i64 rs, .int .i64 rn]) (by simp [results, Tryz.results75, go_sem, d0, d1, d2, d3]) rfl ?_
      exact ⟨rfl, HD.out⟩
end Go.Proofs.YtcpgamidimfflaaGreat
namespace Go.Proofs.YtcpgamidimfflaaGreat
open Go.RowKit Go.My Go.Maps
set_option linter.unusedSimpArgs false
set_option linter.unusedVariables false
attribute [local go_sem ↓] Go.wp_at_zero Go.wp_at_succ
section
open Go.ChangeShapes Go.WideShapes
variable {H : Type} {enc : TypeId × Value → H} {w : World} {base : Nat} {spare : Nat → Bool} {held : Bool}
end
end Go.Proofs.YtcpgamidimfflaaGreat
namespace Go.Proofs.YtcpgamidimfflaaGreat
open Go.RowKit Go.My Go.Maps
set_option linter.unusedSimpArgs false
set_option linter.unusedVariables false
attribute [local go_sem ↓] Go.wp_at_zero Go.wp_at_succ
def aX : Ac := ⟨[97], 30, 20, 0⟩
def S1L : List Ac := [aX, aB 10, aC]
def H1L : List Hd := [⟨1, [97], 20⟩]
theorem v1 : putE abcS [] 1 [97] 20 = 0 ∧ putSS abcS [] 1 [97] 20 = S1L ∧ putHH abcS [] 1 [97] 20 = H1L := by
  have h0 : asideE (aA 30) 20 = 0 := by unfold asideE freeB In64 aA; simp
  have h1 : getA abcS [97] = some (aA 30) := rfl
  have h2 : asdE abcS [97] 20 = 0 := by unfold asdE actE; rw [h1]; exact h0
  have h3 : putE abcS [] 1 [97] 20 = 0 := by
    unfold putE
    rw [if_neg (by omega), if_neg (by decide), if_neg (by simp [ofH])]
    exact h2
  refine ⟨h3, ?_, ?_⟩
  · unfold putSS asdS actS
    rw [if_pos h3, h1]
    simp only
    rw [if_pos h0]
    unfold asideA
    rw [if_pos h0]
    rfl
  · unfold putHH
    rw [if_pos h3]
    rfl
theorem v2 : putE S1L H1L 2 [97] 11 = 9 := by
  have h0 : asideE aX 11 = 9 := by unfold asideE freeB In64 aX; simp
  have h1 : getA S1L [97] = some aX := rfl
  unfold putE
  rw [if_neg (by omega), if_neg (by decide), if_neg (by decide)]
  unfold asdE actE
  rw [h1]
  exact h0
theorem v3 : takeE S1L H1L ⟨#[97]⟩ 1 ⟨#[99]⟩ 4 = 0 ∧ (∃ T, takeSS S1L H1L ⟨#[97]⟩ 1 ⟨#[99]⟩ 4 = T ∧ getV T [97] = ⟨[97], 26, 0, 0⟩ ∧ (getA T [97]).isSome = true) ∧ takeHH S1L H1L ⟨#[97]⟩ 1 ⟨#[99]⟩ 4 = [] := by
  have g0 : getH H1L (⟨#[97]⟩ : ByteArray).data.toList 1 = some ⟨1, [97], 20⟩ := by decide
  have h0 : asideE aX (-20) = 0 := by unfold asideE freeB In64 aX; simp
  have h1 : getA S1L (⟨#[97]⟩ : ByteArray).data.toList = some aX := rfl
  have h2 : asdE S1L (⟨#[97]⟩ : ByteArray).data.toList (-20) = 0 := by unfold asdE actE; rw [h1]; exact h0
  have h3 : asdS S1L (⟨#[97]⟩ : ByteArray).data.toList (-20) = abcS := by
    unfold asdS actS
    rw [h1]
    simp only
    rw [if_pos h0]
    unfold asideA
    rw [if_pos h0]
    rfl
  have e1 : giveE (aA 30) 4 = 0 := by unfold giveE freeB In64 aA; simp
  have e2 : giveE aC (-4) = 0 := by unfold giveE freeB In64 aC; simp
  have k1 : legE abcS ⟨⟨#[97]⟩, -4⟩ = 0 := by
    unfold legE actE
    rw [if_neg (by decide), if_neg (by decide)]
    exact e1
  have k2 : legS abcS ⟨⟨#[97]⟩, -4⟩ = [aA 26, aB 10, aC] := by
    unfold legS
    rw [if_pos k1]
    unfold actS
    show (match getA abcS [97] with | none => abcS | some a => if giveE a 4 = 0 then putA (giveA a 4) abcS else abcS) = _
    rw [show getA abcS [97] = some (aA 30) from rfl]
    simp only
    rw [if_pos e1]
    unfold giveA
    rw [if_pos e1]
    rfl
  have k3 : legE [aA 26, aB 10, aC] ⟨⟨#[99]⟩, 4⟩ = 0 := by
    unfold legE actE
    rw [if_neg (by decide), if_neg (by decide)]
    exact e2
  have k4 : legsE abcS (legsT ⟨#[97]⟩ ⟨#[99]⟩ 4) = 0 := by
    unfold legsT
    rw [legsE_cons, if_pos k1, k2, legsE_cons, if_pos k3]
    rfl
  have k5 : checkE abcS (legsT ⟨#[97]⟩ ⟨#[99]⟩ 4) = 0 := by
    unfold checkE
    rw [if_neg (by decide), if_pos (by decide)]
    exact k4
  have k6 : makeS abcS (legsT ⟨#[97]⟩ ⟨#[99]⟩ 4) = legS [aA 26, aB 10, aC] ⟨⟨#[99]⟩, 4⟩ := by
    unfold makeS
    rw [if_pos k5]
    unfold legsT
    rw [legsS_cons, if_pos k1, k2, legsS_cons, if_pos k3]
    rfl
  have k7 : takeE S1L H1L ⟨#[97]⟩ 1 ⟨#[99]⟩ 4 = 0 := by
    unfold takeE
    rw [g0]
    simp only
    rw [if_neg (by omega), if_pos h2, h3]
    exact k5
  refine ⟨k7, ⟨_, rfl, ?_⟩, ?_⟩
  · unfold takeSS
    rw [if_pos k7, g0]
    show getV (makeS (asdS S1L (⟨#[97]⟩ : ByteArray).data.toList (-20)) _) [97] = _ ∧ _
    rw [h3, k6]
    have : getA (legS [aA 26, aB 10, aC] ⟨⟨#[99]⟩, 4⟩) [97] = some ⟨[97], 26, 0, 0⟩ := by
      rw [leg_other _ _ [97] (by decide)]
      rfl
    unfold getV
    show (getA (legS [aA 26, aB 10, aC] ⟨⟨#[99]⟩, 4⟩) [97]).getD noA = _ ∧ (getA (legS [aA 26, aB 10, aC] ⟨⟨#[99]⟩, 4⟩) [97]).isSome = true
    rw [this]
    exact ⟨rfl, rfl⟩
  · unfold takeHH
    rw [if_pos k7]
    decide
end Go.Proofs.YtcpgamidimfflaaGreat
