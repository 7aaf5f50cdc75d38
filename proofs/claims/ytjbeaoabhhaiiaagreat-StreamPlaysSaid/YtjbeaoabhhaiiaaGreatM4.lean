/- What each kind of order does to the document's book in memory. What a kind of order does to the document's book in memory. What a kind of order does to the document's book in memory. -/
import Derived.Test.YtjbeaoabhhaiiaaGreatM3
import Derived.Test.YtjbeaoabhhaiiaaGreatM2
import Derived.Deep.RegionHeld3
import Derived.Deep.DrawnRows
namespace Go.Proofs.YtjbeaoabhhaiiaaGreat
open Go.RowKit Go.My Go.Maps
set_option linter.unusedSimpArgs false
set_option linter.unusedVariables false
attribute [local go_sem ↓] Go.wp_at_zero Go.wp_at_succ

theorem rdid_tail {r : Rl} {b b' : Bk} {w u V W : World} {g : Nat} {cur : Array Value} (hq : RbS w r b) (hb : RbS u r b') (hw : Fr r.wr w u) (hN : Fr No u V) (hR : Blk V g 41 cur) (hC : Fr (At1 g) V W) (hr : w.heap.size ≤ g) : RbS W r b' ∧ Fr r.wr w W := by
  refine ⟨(hb.no hN).fr hC (fun i hi e => ?_) (fun k hk cur' hc => ?_) (fun k hk cur' hc => ?_), (hw.trans (hN.mono fun _ _ h => False.elim h)).trans' hC fun i hi hlt => ?_⟩
  · have := hq.lt i hi
    have : i = g := e
    omega
  · have e : k = g := hk
    subst e
    exact Blk.ne_ hR hc (by decide) rfl
  · have e : k = g := hk
    subst e
    exact Blk.ne_ hR hc (by decide) rfl
  · have : i = g := hi
    omega
theorem rkeep4 {S : Nat → Prop} {w1 u : World} {g : Nat} {a b c d : Value} (h : Fr S w1 u) (hg : w1.heap.size ≤ g) : Fr S w1 ((((u.setCell ⟨g, 0, none⟩ a).setCell ⟨g, 1, none⟩ b).setCell ⟨g, 2, none⟩ c).setCell ⟨g, 3, none⟩ d) :=
  h.trans' (fr_set4 u g a b c d) fun i hi hlt => by
    have : i = g := hi
    omega
theorem about_num (T : List Ac) (nm : List UInt8) (E : Int) : aboutR T nm E = numR (aboutR T nm E) 0 := by
  unfold numR aboutR errR
  by_cases h : E = 0
  · rw [if_pos h]; simp only; split <;> rfl
  · rw [if_neg h]; simp only; split <;> rfl
theorem about1 (T : List Ac) (nm : List UInt8) (E n : Int) (h : E ≠ 0) : numR (aboutR T nm E) n = ⟨E, 0, 0, 0⟩ := by
  unfold numR aboutR errR
  rw [if_neg h]
  simp only
  rw [if_neg h]
theorem about2 (T : List Ac) (nm : List UInt8) (n g : Int) (hg : (if (getA T nm).isSome then (0 : Int) else 6) = g) (h : g ≠ 0) : numR (aboutR T nm 0) n = ⟨g, 0, 0, 0⟩ := by
  unfold numR aboutR getV
  cases hx : getA T nm with
  | none => rw [hx] at hg; subst hg; rfl
  | some a => rw [hx] at hg; exact absurd hg.symm h
theorem about3 (T : List Ac) (nm : List UInt8) (n : Int) (hg : (if (getA T nm).isSome then (0 : Int) else 6) = 0) : numR (aboutR T nm 0) n = ⟨0, (getV T nm).hv, (getV T nm).st, n⟩ := by
  unfold numR aboutR
  rw [if_pos rfl]
  simp only
  rw [if_pos hg, hg]
set_option maxRecDepth 100000 in
set_option maxHeartbeats 4000000 in
theorem rdo_open (F : Nat → Prop) (r : Rl) (b : Bk) (o : Od) (v : Value) (w : World) (h : RbS w r b) (ho : o.ok) (hv : LgS w F v o.legs) (h100 : o.legs.length ≤ 100) (hF : ∀ k, F k → k < w.heap.size ∧ k ≠ r.c) (hr : rightO o = true) (hk : o.kd = 1) :
    Calls Tryz.prog 35 #[.pointer (some ⟨r.p, 0, none⟩), o.val v] w (DidR r (effR b o) (effB b o) w) := by
  have hI := eff_inv h.inv ho hr
  have eB : effB b o = ⟨openS b.S o.an o.sum, b.H, b.cl⟩ := by unfold effB; rw [if_pos hk]
  have eR : effR b o = aboutR (openS b.S o.an o.sum) o.an (openE b.S o.an o.sum) := by unfold effR; rw [if_pos hk]
  rw [eB] at hI
  rw [eB, eR]
  have HRT : Hid (∀ W, Fr No w W → Calls Tryz.prog 52 #[o.val v] W fun e w' => e = .returned (.bool true) ∧ Fr No W w') := fun W hW => by
    have hx := refrightO_any F o v W ho (hv.no hW) h100
    rw [hr] at hx
    exact hx
  obtain ⟨-, -, -, hac, hpe, hsm, hpr, hhd, -⟩ := ho
  clear eB eR hr
  obtain ⟨ocl, osq, okd, oac, ope, osm, olg, opr, ohd, ont⟩ := o
  unfold Od.val Od.cs Od.an at *
  simp only at hac hpe hsm hpr hhd hI HRT hk hv h100 ⊢
  subst hk
  have HH := Lib.hid h
  have HI := Lib.hid hI
  have HO : Hid (∀ W, Fr No w W → Calls Tryz.prog 53 #[.pointer (some ⟨r.c, 0, none⟩), .string oac, .int .i64 osm] W fun e w' => e = .returned (.int .i64 (openE b.S oac.data.toList osm)) ∧ RbS w' r ⟨openS b.S oac.data.toList osm, b.H, b.cl⟩ ∧ Fr (At2 r.c r.h) W w') := fun W hW => (refopen_any r.c b.S oac osm W (h.ch.no hW) h.inv.st.kp.inv hac hsm).mono fun e w' hx => ⟨hx.1, (h.no hW).chart hx.2.1 hx.2.2 hI, hx.2.2.mono fun _ _ h => .inl h⟩
  generalize openE b.S oac.data.toList osm = E at *
  generalize openS b.S oac.data.toList osm = T at *
  rw [about_num T oac.data.toList E]
  have HX1 : Hid (E ≠ 0 → numR (aboutR T oac.data.toList E) 0 = ⟨E, 0, 0, 0⟩) := about1 T oac.data.toList E 0
  have HX2 : Hid (E = 0 → (if (getA T oac.data.toList).isSome then (0 : Int) else 6) ≠ 0 → numR (aboutR T oac.data.toList E) 0 = ⟨(if (getA T oac.data.toList).isSome then (0 : Int) else 6), 0, 0, 0⟩) := fun h1 h2 => by
    rw [h1]
    exact about2 T oac.data.toList 0 _ rfl h2
  have HX3 : Hid (E = 0 → (if (getA T oac.data.toList).isSome then (0 : Int) else 6) = 0 → numR (aboutR T oac.data.toList E) 0 = ⟨0, (getV T oac.data.toList).hv, (getV T oac.data.toList).st, 0⟩) := fun h1 h2 => by
    rw [h1]
    exact about3 T oac.data.toList 0 h2
  have HGET : Hid (∀ W, RbS W r ⟨T, b.H, b.cl⟩ → Calls Tryz.prog 37 #[.pointer (some ⟨r.c, 0, none⟩), .string oac] W fun e w' => e = .returned (.tuple #[(getV T oac.data.toList).val, .int .i64 (if (getA T oac.data.toList).isSome then 0 else 6)]) ∧ Fr No W w') := fun W hW => refget_any r.c T oac W hW.ch hW.inv.st.kp.inv
  generalize numR (aboutR T oac.data.toList E) 0 = X at *
  generalize (if (getA T oac.data.toList).isSome then (0 : Int) else 6) = ge at *
  generalize getV T oac.data.toList = gv at *
  obtain ⟨gn, gh, gs, gl⟩ := gv
  unfold Ac.val at HGET
  simp only at HX1 HX2 HX3 HGET
  have hbk := h.blk
  have hbo := Blk.new w 35 #[.int .i64 ocl, .int .i64 osq, .int .i64 1, .string oac, .string ope, .int .i64 osm, v, .int .i64 opr, .int .i64 ohd, .string ont]
  have hbr := Blk.new (w.alloc (.cells #[.int .i64 ocl, .int .i64 osq, .int .i64 1, .string oac, .string ope, .int .i64 osm, v, .int .i64 opr, .int .i64 ohd, .string ont] 35)) 41 #[.int .i64 0, .int .i64 0, .int .i64 0, .int .i64 0]
  rw [World.size_alloc] at hbr
  have hbo1 := hbo.alloc (.cells #[.int .i64 0, .int .i64 0, .int .i64 0, .int .i64 0] 41)
  have hf1 : Fr No w ((w.alloc (.cells #[.int .i64 ocl, .int .i64 osq, .int .i64 1, .string oac, .string ope, .int .i64 osm, v, .int .i64 opr, .int .i64 ohd, .string ont] 35)).alloc (.cells #[.int .i64 0, .int .i64 0, .int .i64 0, .int .i64 0] 41)) := ((Fr.refl _ _).alloc _).alloc _
  have hwr : ∀ i, r.wr i → i < w.heap.size := h.lt
  clear h hI hac hsm hpe hpr hhd hbo hv h100 hF
  go_enter Tryz.func35, Tryz.ntmps35
  have o0 := hbo1.cell 0
  have o1 := hbo1.cell 1
  have o2 := hbo1.cell 2
  have o3 := hbo1.cell 3
  have o4 := hbo1.cell 4
  have o5 := hbo1.cell 5
  have o6 := hbo1.cell 6
  have o7 := hbo1.cell 7
  have o8 := hbo1.cell 8
  have o9 := hbo1.cell 9
  simp only [List.getElem?_toArray, List.getElem?_cons_zero, List.getElem?_cons_succ] at o0 o1 o2 o3 o4 o5 o6 o7 o8 o9
  go_wp2_with fail
  (with_reducible refine (HRT.out _ hf1).mono ?_)
  rintro e w1 ⟨rfl, hg0⟩
  have hf1 := hf1.trans hg0
  have hbo1 := hbo1.fr hg0 (fun h => h)
  have hbr := hbr.fr hg0 (fun h => h)
  clear hg0 HRT o0 o1 o2 o3 o4 o5 o6 o7 o8 o9
  have o2 := hbo1.cell 2
  simp only [List.getElem?_toArray, List.getElem?_cons_zero, List.getElem?_cons_succ] at o2
  go_upto_region 3 with (fail)
  have HF1 := Lib.hid hf1
  have HBR := Lib.hid hbr
  have HBO := Lib.hid hbo1
  have HBK := Lib.hid (hbk.fr hf1 (fun h => h))
  clear hf1 hbr hbo1 hbk
  go_quiet (fail)
  have hq1 : Fr No w1 (w1.drewN nq) := (Fr.refl No w1).drewN nq
  replace HF1 := Lib.hid (HF1.out.trans hq1)
  replace HBR := Lib.hid (HBR.out.fr hq1 fun h => h)
  replace HBO := Lib.hid (HBO.out.fr hq1 fun h => h)
  replace HBK := Lib.hid (HBK.out.fr hq1 fun h => h)
  clear hq1 o2
  generalize w1.drewN nq = w2 at *
  clear w1
  have o2 := HBO.out.cell 2
  simp only [List.getElem?_toArray, List.getElem?_cons_zero, List.getElem?_cons_succ] at o2
  go_upto_region 9 with (fail)
  have HXA : Hid (∀ W, Fr (At2 r.c r.h) w2 W → Fr (At2 r.c r.h) w2 W ∧ W.cell? ⟨r.p, 0, none⟩ = some (.pointer (some ⟨r.c, 0, none⟩)) ∧ W.cell? ⟨w.heap.size, 3, none⟩ = some (.string oac) ∧ W.cell? ⟨w.heap.size, 5, none⟩ = some (.int .i64 osm)) := fun W hW => by
    have h1 := HBO.out.fr hW (fun e => by have := hwr w.heap.size (by rcases e with e | e; exact .inr (.inl e); exact .inr (.inr e)); omega)
    have h2 := HBK.out.fr hW (fun e => by rcases e with e | e; exact HH.out.ne_pc e; exact HH.out.ne_ph e)
    exact ⟨hW, h2.cell 0, h1.cell 3, h1.cell 5⟩
  have hk0 : Fr (At2 r.c r.h) w2 w2.drew := (Fr.refl _ w2).drew
  go_region_held3 (fun W => Fr (At2 r.c r.h) w2 W ∧ W.cell? ⟨r.p, 0, none⟩ = some (.pointer (some ⟨r.c, 0, none⟩)) ∧ W.cell? ⟨w.heap.size, 3, none⟩ = some (.string oac) ∧ W.cell? ⟨w.heap.size, 5, none⟩ = some (.int .i64 osm))
    (first
      | (refine HXA.out _ ?_; with_reducible assumption)
      | (refine HXA.out _ (Fr.drew ?_); with_reducible first | assumption | exact Fr.refl _ w2))
    (first
      | (go_at_call 53; (with_reducible refine (HO.out _ HF1.out.drew).mono ?_); rintro e u1 ⟨rfl, hb1, hg⟩; have ka1 : Fr (At2 r.c r.h) w2 u1 := Fr.trans ((Fr.refl _ w2).drew) hg; clear hg))
  replace ka1 := Rl.wr_ch ka1
  clear HXA HO hk0
  have hfar : ∀ g, w.heap.size ≤ g → ¬ r.wr g := fun g hg e => by
    have := hwr g e
    omega
  have hw1 : Fr r.wr w u1 := (HF1.out.mono fun _ _ h => False.elim h).trans ka1
  have hbr1 := HBR.out.fr ka1 (hfar _ (Nat.le_succ _))
  have hbo1 := HBO.out.fr ka1 (hfar _ (Nat.le_refl _))
  have hbk1 := hb1.blk
  go_upto_region 22 with (fail)
  have HXA : Hid (∀ W, Fr No u1 W → Fr No u1 W ∧ W.cell? ⟨r.p, 0, none⟩ = some (.pointer (some ⟨r.c, 0, none⟩)) ∧ W.cell? ⟨w.heap.size, 3, none⟩ = some (.string oac)) := fun W hW => by
    have h1 := hbo1.fr hW (fun h => h)
    have h2 := hbk1.fr hW (fun h => h)
    exact ⟨hW, h2.cell 0, h1.cell 3⟩
  have HB1 := Lib.hid hb1
  have HW1 := Lib.hid hw1
  have HBR1 := Lib.hid hbr1
  clear hbr1 hbo1 hbk1 hb1 hw1 ka1 hfar
  have hk0 : Fr No u1 u1.drew := (Fr.refl No u1).drew
  go_region_held3 (fun W => Fr No u1 W ∧ W.cell? ⟨r.p, 0, none⟩ = some (.pointer (some ⟨r.c, 0, none⟩)) ∧ W.cell? ⟨w.heap.size, 3, none⟩ = some (.string oac))
    (first
      | (refine HXA.out _ ?_; with_reducible assumption)
      | (refine HXA.out _ (Fr.alloc ?_ _); with_reducible assumption)
      | (refine HXA.out _ (Fr.drew (Fr.alloc ?_ _)); with_reducible first | assumption | exact Fr.refl _ u1)
      | (refine HXA.out _ (rkeep4 (by with_reducible assumption) (by first | with_reducible assumption | omega))))
    (first
      | (go_at_call 37; (with_reducible refine (HGET.out _ (HB1.out.no (((Fr.refl _ u1).alloc _).drew))).mono ?_); rintro e u2 ⟨rfl, hg⟩; have ka2 : Fr No u1 u2 := Fr.trans ((Fr.refl _ u1).alloc _).drew hg; have hz2 := Blk.fr (Blk.new u1 80 _).drew hg (fun h => h); clear hg; have y0 := hz2.cell 0; have y1 := hz2.cell 1; have y2 := hz2.cell 2; have y3 := hz2.cell 3; have z0 := hz2.frozen 0; have z1 := hz2.frozen 1; have z2 := hz2.frozen 2; have z3 := hz2.frozen 3; simp only [List.getElem?_toArray, List.getElem?_cons_zero, List.getElem?_cons_succ] at y0 y1 y2 y3; have hzl := hz2.lt)
      | (go_at_call 37; (with_reducible refine (HGET.out _ (HB1.out.no (Fr.refl _ u1).drew)).mono ?_); rintro e u2 ⟨rfl, hg⟩; have ka2 : Fr No u1 u2 := Fr.trans (Fr.refl _ u1).drew hg; clear hg))
  · have hx : Blk (u2.alloc (.cells #[.string ⟨gn.toArray⟩, .int .i64 gh, .int .i64 gs, .int .i64 gl] 80)) u2.heap.size 80 #[.string ⟨gn.toArray⟩, .int .i64 gh, .int .i64 gs, .int .i64 gl] := Blk.new u2 80 _
    have hr : Blk (u2.alloc (.cells #[.string ⟨gn.toArray⟩, .int .i64 gh, .int .i64 gs, .int .i64 gl] 80)) (w.heap.size + 1) 41 #[.int .i64 0, .int .i64 0, .int .i64 0, .int .i64 0] := (HBR1.out.fr ka2 (fun h => h)).alloc _
    have hN : Fr No u1 (u2.alloc (.cells #[.string ⟨gn.toArray⟩, .int .i64 gh, .int .i64 gs, .int .i64 gl] 80)) := ka2.alloc _
    clear HXA HGET ka2
    try clear hz2 y0 y1 y2 y3 z0 z1 z2 z3 hzl
    generalize u2.alloc (.cells #[.string ⟨gn.toArray⟩, .int .i64 gh, .int .i64 gs, .int .i64 gl] 80) = u3 at *
    generalize u2.heap.size = g at *
    have x1 := hx.cell 1
    have x2 := hx.cell 2
    have r0 := hr.cell 0
    have r1 := hr.cell 1
    have r2 := hr.cell 2
    have r3 := hr.cell 3
    have f0 := hr.frozen 0
    have f1 := hr.frozen 1
    have f2 := hr.frozen 2
    have f3 := hr.frozen 3
    simp only [List.getElem?_toArray, List.getElem?_cons_zero, List.getElem?_cons_succ] at x1 x2 r0 r1 r2 r3
    clear hx
    by_cases hE : E = 0
    · subst hE
      by_cases hg : ge = 0
      · have HRR := Lib.hid (HX3.out rfl hg)
        subst hg
        have hd := blk_set4 hr (.int .i64 0) (.int .i64 gh) (.int .i64 gs) (.int .i64 0)
        have HD := Lib.hid (rdid_tail HH.out HB1.out HW1.out hN hr (fr_set4 u3 (w.heap.size + 1) (.int .i64 0) (.int .i64 gh) (.int .i64 gs) (.int .i64 0)) (Nat.le_succ _))
        have HDD := Lib.hid hd
        clear hr hd hN
        go_wp2
        have hd := HDD.out
        have d0 := hd.cell 0
        have d1 := hd.cell 1
        have d2 := hd.cell 2
        have d3 := hd.cell 3
        simp only [List.getElem?_toArray, List.getElem?_cons_zero, List.getElem?_cons_succ] at d0 d1 d2 d3
        refine bodyPost_ret (v := .agg #[.int .i64 0, .int .i64 gh, .int .i64 gs, .int .i64 0]) (by simp [results, Tryz.results35, go_sem, d0, d1, d2, d3]) rfl ?_
        exact ⟨by rw [HRR.out]; rfl, HD.out⟩
      · have HRR := Lib.hid (HX2.out rfl hg)
        have e1 : (ge == 0) = false := by simpa using hg
        have e2 : (ge != 0) = true := by simpa using hg
        clear hg
        have hd := blk_set4 hr (.int .i64 ge) (.int .i64 0) (.int .i64 0) (.int .i64 0)
        have HD := Lib.hid (rdid_tail HH.out HB1.out HW1.out hN hr (fr_set4 u3 (w.heap.size + 1) (.int .i64 ge) (.int .i64 0) (.int .i64 0) (.int .i64 0)) (Nat.le_succ _))
        have HDD := Lib.hid hd
        clear hr hd hN
        go_wp2
        have hd := HDD.out
        have d0 := hd.cell 0
        have d1 := hd.cell 1
        have d2 := hd.cell 2
        have d3 := hd.cell 3
        simp only [List.getElem?_toArray, List.getElem?_cons_zero, List.getElem?_cons_succ] at d0 d1 d2 d3
        refine bodyPost_ret (v := .agg #[.int .i64 ge, .int .i64 0, .int .i64 0, .int .i64 0]) (by simp [results, Tryz.results35, go_sem, d0, d1, d2, d3]) rfl ?_
        exact ⟨by rw [HRR.out]; rfl, HD.out⟩
    · have HRR := Lib.hid (HX1.out hE)
      have e1 : (E == 0) = false := by simpa using hE
      have e2 : (E != 0) = true := by simpa using hE
      clear hE
      have hd := blk_set4 hr (.int .i64 E) (.int .i64 0) (.int .i64 0) (.int .i64 0)
      have HD := Lib.hid (rdid_tail HH.out HB1.out HW1.out hN hr (fr_set4 u3 (w.heap.size + 1) (.int .i64 E) (.int .i64 0) (.int .i64 0) (.int .i64 0)) (Nat.le_succ _))
      have HDD := Lib.hid hd
      clear hr hd hN
      go_wp2
      have hd := HDD.out
      have d0 := hd.cell 0
      have d1 := hd.cell 1
      have d2 := hd.cell 2
      have d3 := hd.cell 3
      simp only [List.getElem?_toArray, List.getElem?_cons_zero, List.getElem?_cons_succ] at d0 d1 d2 d3
      refine bodyPost_ret (v := .agg #[.int .i64 E, .int .i64 0, .int .i64 0, .int .i64 0]) (by simp [results, Tryz.results35, go_sem, d0, d1, d2, d3]) rfl ?_
      exact ⟨by rw [HRR.out]; rfl, HD.out⟩
  · have hx : Blk ((((u2.setCell ⟨u1.heap.size, 0, none⟩ (.string ⟨gn.toArray⟩)).setCell ⟨u1.heap.size, 1, none⟩ (.int .i64 gh)).setCell ⟨u1.heap.size, 2, none⟩ (.int .i64 gs)).setCell ⟨u1.heap.size, 3, none⟩ (.int .i64 gl)) u1.heap.size 80 #[.string ⟨gn.toArray⟩, .int .i64 gh, .int .i64 gs, .int .i64 gl] := blk_set4 hz2 _ _ _ _
    have hr : Blk ((((u2.setCell ⟨u1.heap.size, 0, none⟩ (.string ⟨gn.toArray⟩)).setCell ⟨u1.heap.size, 1, none⟩ (.int .i64 gh)).setCell ⟨u1.heap.size, 2, none⟩ (.int .i64 gs)).setCell ⟨u1.heap.size, 3, none⟩ (.int .i64 gl)) (w.heap.size + 1) 41 #[.int .i64 0, .int .i64 0, .int .i64 0, .int .i64 0] := (HBR1.out.fr ka2 (fun h => h)).fr (fr_set4 u2 u1.heap.size _ _ _ _) (fun e => by have := HBR1.out.lt; have : w.heap.size + 1 = u1.heap.size := e; omega)
    have hN : Fr No u1 ((((u2.setCell ⟨u1.heap.size, 0, none⟩ (.string ⟨gn.toArray⟩)).setCell ⟨u1.heap.size, 1, none⟩ (.int .i64 gh)).setCell ⟨u1.heap.size, 2, none⟩ (.int .i64 gs)).setCell ⟨u1.heap.size, 3, none⟩ (.int .i64 gl)) := rkeep4 ka2 (Nat.le_refl _)
    clear HXA HGET ka2
    try clear hz2 y0 y1 y2 y3 z0 z1 z2 z3 hzl
    generalize (((u2.setCell ⟨u1.heap.size, 0, none⟩ (.string ⟨gn.toArray⟩)).setCell ⟨u1.heap.size, 1, none⟩ (.int .i64 gh)).setCell ⟨u1.heap.size, 2, none⟩ (.int .i64 gs)).setCell ⟨u1.heap.size, 3, none⟩ (.int .i64 gl) = u3 at *
    generalize u1.heap.size = g at *
    have x1 := hx.cell 1
    have x2 := hx.cell 2
    have r0 := hr.cell 0
    have r1 := hr.cell 1
    have r2 := hr.cell 2
    have r3 := hr.cell 3
    have f0 := hr.frozen 0
    have f1 := hr.frozen 1
    have f2 := hr.frozen 2
    have f3 := hr.frozen 3
    simp only [List.getElem?_toArray, List.getElem?_cons_zero, List.getElem?_cons_succ] at x1 x2 r0 r1 r2 r3
    clear hx
    by_cases hE : E = 0
    · subst hE
      by_cases hg : ge = 0
      · have HRR := Lib.hid (HX3.out rfl hg)
        subst hg
        have hd := blk_set4 hr (.int .i64 0) (.int .i64 gh) (.int .i64 gs) (.int .i64 0)
        have HD := Lib.hid (rdid_tail HH.out HB1.out HW1.out hN hr (fr_set4 u3 (w.heap.size + 1) (.int .i64 0) (.int .i64 gh) (.int .i64 gs) (.int .i64 0)) (Nat.le_succ _))
        have HDD := Lib.hid hd
        clear hr hd hN
        go_wp2
        have hd := HDD.out
        have d0 := hd.cell 0
        have d1 := hd.cell 1
        have d2 := hd.cell 2
        have d3 := hd.cell 3
        simp only [List.getElem?_toArray, List.getElem?_cons_zero, List.getElem?_cons_succ] at d0 d1 d2 d3
        refine bodyPost_ret (v := .agg #[.int .i64 0, .int .i64 gh, .int .i64 gs, .int .i64 0]) (by simp [results, Tryz.results35, go_sem, d0, d1, d2, d3]) rfl ?_
        exact ⟨by rw [HRR.out]; rfl, HD.out⟩
      · have HRR := Lib.hid (HX2.out rfl hg)
        have e1 : (ge == 0) = false := by simpa using hg
        have e2 : (ge != 0) = true := by simpa using hg
        clear hg
        have hd := blk_set4 hr (.int .i64 ge) (.int .i64 0) (.int .i64 0) (.int .i64 0)
        have HD := Lib.hid (rdid_tail HH.out HB1.out HW1.out hN hr (fr_set4 u3 (w.heap.size + 1) (.int .i64 ge) (.int .i64 0) (.int .i64 0) (.int .i64 0)) (Nat.le_succ _))
        have HDD := Lib.hid hd
        clear hr hd hN
        go_wp2
        have hd := HDD.out
        have d0 := hd.cell 0
        have d1 := hd.cell 1
        have d2 := hd.cell 2
        have d3 := hd.cell 3
        simp only [List.getElem?_toArray, List.getElem?_cons_zero, List.getElem?_cons_succ] at d0 d1 d2 d3
        refine bodyPost_ret (v := .agg #[.int .i64 ge, .int .i64 0, .int .i64 0, .int .i64 0]) (by simp [results, Tryz.results35, go_sem, d0, d1, d2, d3]) rfl ?_
        exact ⟨by rw [HRR.out]; rfl, HD.out⟩
    · have HRR := Lib.hid (HX1.out hE)
      have e1 : (E == 0) = false := by simpa using hE
      have e2 : (E != 0) = true := by simpa using hE
      clear hE
      have hd := blk_set4 hr (.int .i64 E) (.int .i64 0) (.int .i64 0) (.int .i64 0)
      have HD := Lib.hid (rdid_tail HH.out HB1.out HW1.out hN hr (fr_set4 u3 (w.heap.size + 1) (.int .i64 E) (.int .i64 0) (.int .i64 0) (.int .i64 0)) (Nat.le_succ _))
      have HDD := Lib.hid hd
      clear hr hd hN
      go_wp2
      have hd := HDD.out
      have d0 := hd.cell 0
      have d1 := hd.cell 1
      have d2 := hd.cell 2
      have d3 := hd.cell 3
      simp only [List.getElem?_toArray, List.getElem?_cons_zero, List.getElem?_cons_succ] at d0 d1 d2 d3
      refine bodyPost_ret (v := .agg #[.int .i64 E, .int .i64 0, .int .i64 0, .int .i64 0]) (by simp [results, Tryz.results35, go_sem, d0, d1, d2, d3]) rfl ?_
      exact ⟨by rw [HRR.out]; rfl, HD.out⟩
end Go.Proofs.YtjbeaoabhhaiiaaGreat

namespace Go.Proofs.YtjbeaoabhhaiiaaGreat
open Go.RowKit Go.My Go.Maps
set_option linter.unusedSimpArgs false
set_option linter.unusedVariables false
attribute [local go_sem ↓] Go.wp_at_zero Go.wp_at_succ

set_option maxRecDepth 100000 in
set_option maxHeartbeats 4000000 in
theorem rdo_capture (F : Nat → Prop) (r : Rl) (b : Bk) (o : Od) (v : Value) (w : World) (h : RbS w r b) (ho : o.ok) (hv : LgS w F v o.legs) (h100 : o.legs.length ≤ 100) (hF : ∀ k, F k → k < w.heap.size ∧ k ≠ r.c) (hr : rightO o = true) (hk : o.kd = 4) (hcl : ¬ o.per ≤ b.cl) :
    Calls Tryz.prog 35 #[.pointer (some ⟨r.p, 0, none⟩), o.val v] w (DidR r (effR b o) (effB b o) w) := by
  have hI := eff_inv h.inv ho hr
  have eB : effB b o = ⟨takeSS b.S b.H o.acct o.hold o.peer o.sum, takeHH b.S b.H o.acct o.hold o.peer o.sum, b.cl⟩ := by unfold effB; rw [if_neg (show ¬ o.kd = 1 by omega), if_neg (show ¬ o.kd = 2 by omega), if_neg (show ¬ o.kd = 3 by omega), if_pos hk, if_neg hcl]
  have eR : effR b o = aboutR (takeSS b.S b.H o.acct o.hold o.peer o.sum) o.an (takeE b.S b.H o.acct o.hold o.peer o.sum) := by unfold effR; rw [if_neg (show ¬ o.kd = 1 by omega), if_neg (show ¬ o.kd = 2 by omega), if_neg (show ¬ o.kd = 3 by omega), if_pos hk, if_neg hcl]
  rw [eB] at hI
  rw [eB, eR]
  have HRT : Hid (∀ W, Fr No w W → Calls Tryz.prog 52 #[o.val v] W fun e w' => e = .returned (.bool true) ∧ Fr No W w') := fun W hW => by
    have hx := refrightO_any F o v W ho (hv.no hW) h100
    rw [hr] at hx
    exact hx
  obtain ⟨-, -, -, hac, hpe, hsm, hpr, hhd, -⟩ := ho
  clear eB eR hr
  obtain ⟨ocl, osq, okd, oac, ope, osm, olg, opr, ohd, ont⟩ := o
  unfold Od.val Od.cs Od.an at *
  simp only at hac hpe hsm hpr hhd hI HRT hk hcl hv h100 ⊢
  subst hk
  have HH := Lib.hid h
  have HI := Lib.hid hI
  have HO : Hid (∀ W, Fr No w W → Calls Tryz.prog 56 #[.pointer (some ⟨r.h, 0, none⟩), .pointer (some ⟨r.c, 0, none⟩), .string oac, .int .i64 ohd, .string ope, .int .i64 osm] W fun e w' => e = .returned (.int .i64 (takeE b.S b.H oac ohd ope osm)) ∧ RbS w' r ⟨takeSS b.S b.H oac ohd ope osm, takeHH b.S b.H oac ohd ope osm, b.cl⟩ ∧ Fr (At2 r.c r.h) W w') := fun W hW => (rtake_any r.c r.h b.S b.H oac ope ohd osm W (h.ch.no hW) h.inv.st.kp.inv (h.hd.no hW) h.inv.st.rise h.inv.st.pos (by have := h.inv.st.len; omega) hac hpe hsm).mono fun e w' hx => ⟨hx.1, (h.no hW).both hx hI, hx.2.2.2⟩
  generalize takeE b.S b.H oac ohd ope osm = E at *
  generalize takeSS b.S b.H oac ohd ope osm = T at *
  generalize takeHH b.S b.H oac ohd ope osm = T2 at *
  rw [about_num T oac.data.toList E]
  have HX1 : Hid (E ≠ 0 → numR (aboutR T oac.data.toList E) 0 = ⟨E, 0, 0, 0⟩) := about1 T oac.data.toList E 0
  have HX2 : Hid (E = 0 → (if (getA T oac.data.toList).isSome then (0 : Int) else 6) ≠ 0 → numR (aboutR T oac.data.toList E) 0 = ⟨(if (getA T oac.data.toList).isSome then (0 : Int) else 6), 0, 0, 0⟩) := fun h1 h2 => by
    rw [h1]
    exact about2 T oac.data.toList 0 _ rfl h2
  have HX3 : Hid (E = 0 → (if (getA T oac.data.toList).isSome then (0 : Int) else 6) = 0 → numR (aboutR T oac.data.toList E) 0 = ⟨0, (getV T oac.data.toList).hv, (getV T oac.data.toList).st, 0⟩) := fun h1 h2 => by
    rw [h1]
    exact about3 T oac.data.toList 0 h2
  have HGET : Hid (∀ W, RbS W r ⟨T, T2, b.cl⟩ → Calls Tryz.prog 37 #[.pointer (some ⟨r.c, 0, none⟩), .string oac] W fun e w' => e = .returned (.tuple #[(getV T oac.data.toList).val, .int .i64 (if (getA T oac.data.toList).isSome then 0 else 6)]) ∧ Fr No W w') := fun W hW => refget_any r.c T oac W hW.ch hW.inv.st.kp.inv
  generalize numR (aboutR T oac.data.toList E) 0 = X at *
  generalize (if (getA T oac.data.toList).isSome then (0 : Int) else 6) = ge at *
  generalize getV T oac.data.toList = gv at *
  obtain ⟨gn, gh, gs, gl⟩ := gv
  unfold Ac.val at HGET
  simp only at HX1 HX2 HX3 HGET
  have hbk := h.blk
  have hbo := Blk.new w 35 #[.int .i64 ocl, .int .i64 osq, .int .i64 4, .string oac, .string ope, .int .i64 osm, v, .int .i64 opr, .int .i64 ohd, .string ont]
  have hbr := Blk.new (w.alloc (.cells #[.int .i64 ocl, .int .i64 osq, .int .i64 4, .string oac, .string ope, .int .i64 osm, v, .int .i64 opr, .int .i64 ohd, .string ont] 35)) 41 #[.int .i64 0, .int .i64 0, .int .i64 0, .int .i64 0]
  rw [World.size_alloc] at hbr
  have hbo1 := hbo.alloc (.cells #[.int .i64 0, .int .i64 0, .int .i64 0, .int .i64 0] 41)
  have hf1 : Fr No w ((w.alloc (.cells #[.int .i64 ocl, .int .i64 osq, .int .i64 4, .string oac, .string ope, .int .i64 osm, v, .int .i64 opr, .int .i64 ohd, .string ont] 35)).alloc (.cells #[.int .i64 0, .int .i64 0, .int .i64 0, .int .i64 0] 41)) := ((Fr.refl _ _).alloc _).alloc _
  have hwr : ∀ i, r.wr i → i < w.heap.size := h.lt
  clear h hI hac hsm hpe hpr hhd hbo hv h100 hF
  go_enter Tryz.func35, Tryz.ntmps35
  have o0 := hbo1.cell 0
  have o1 := hbo1.cell 1
  have o2 := hbo1.cell 2
  have o3 := hbo1.cell 3
  have o4 := hbo1.cell 4
  have o5 := hbo1.cell 5
  have o6 := hbo1.cell 6
  have o7 := hbo1.cell 7
  have o8 := hbo1.cell 8
  have o9 := hbo1.cell 9
  simp only [List.getElem?_toArray, List.getElem?_cons_zero, List.getElem?_cons_succ] at o0 o1 o2 o3 o4 o5 o6 o7 o8 o9
  go_wp2_with fail
  (with_reducible refine (HRT.out _ hf1).mono ?_)
  rintro e w1 ⟨rfl, hg0⟩
  have hf1 := hf1.trans hg0
  have hbo1 := hbo1.fr hg0 (fun h => h)
  have hbr := hbr.fr hg0 (fun h => h)
  clear hg0 HRT o0 o1 o2 o3 o4 o5 o6 o7 o8 o9
  have o2 := hbo1.cell 2
  have o7 := hbo1.cell 7
  have q2 := (hbk.fr hf1 (fun h => h)).cell 2
  simp only [List.getElem?_toArray, List.getElem?_cons_zero, List.getElem?_cons_succ] at o2 o7 q2
  go_upto_region 3 with (fail)
  have HF1 := Lib.hid hf1
  have HBR := Lib.hid hbr
  have HBO := Lib.hid hbo1
  have HBK := Lib.hid (hbk.fr hf1 (fun h => h))
  clear hf1 hbr hbo1 hbk
  go_quiet (fail)
  have hq1 : Fr No w1 (w1.drewN nq) := (Fr.refl No w1).drewN nq
  replace HF1 := Lib.hid (HF1.out.trans hq1)
  replace HBR := Lib.hid (HBR.out.fr hq1 fun h => h)
  replace HBO := Lib.hid (HBO.out.fr hq1 fun h => h)
  replace HBK := Lib.hid (HBK.out.fr hq1 fun h => h)
  clear hq1 o2 o7 q2
  generalize w1.drewN nq = w2 at *
  clear w1
  have o2 := HBO.out.cell 2
  simp only [List.getElem?_toArray, List.getElem?_cons_zero, List.getElem?_cons_succ] at o2
  go_upto_region 16 with (fail)
  have HXA : Hid (∀ W, Fr (At2 r.c r.h) w2 W → Fr (At2 r.c r.h) w2 W ∧ W.cell? ⟨r.p, 0, none⟩ = some (.pointer (some ⟨r.c, 0, none⟩)) ∧ W.cell? ⟨r.p, 1, none⟩ = some (.pointer (some ⟨r.h, 0, none⟩)) ∧ W.cell? ⟨w.heap.size, 3, none⟩ = some (.string oac) ∧ W.cell? ⟨w.heap.size, 8, none⟩ = some (.int .i64 ohd) ∧ W.cell? ⟨w.heap.size, 4, none⟩ = some (.string ope) ∧ W.cell? ⟨w.heap.size, 5, none⟩ = some (.int .i64 osm)) := fun W hW => by
    have h1 := HBO.out.fr hW (fun e => by have := hwr w.heap.size (by rcases e with e | e; exact .inr (.inl e); exact .inr (.inr e)); omega)
    have h2 := HBK.out.fr hW (fun e => by rcases e with e | e; exact HH.out.ne_pc e; exact HH.out.ne_ph e)
    exact ⟨hW, h2.cell 0, h2.cell 1, h1.cell 3, h1.cell 8, h1.cell 4, h1.cell 5⟩
  have hk0 : Fr (At2 r.c r.h) w2 w2.drew := (Fr.refl _ w2).drew
  go_region_held3 (fun W => Fr (At2 r.c r.h) w2 W ∧ W.cell? ⟨r.p, 0, none⟩ = some (.pointer (some ⟨r.c, 0, none⟩)) ∧ W.cell? ⟨r.p, 1, none⟩ = some (.pointer (some ⟨r.h, 0, none⟩)) ∧ W.cell? ⟨w.heap.size, 3, none⟩ = some (.string oac) ∧ W.cell? ⟨w.heap.size, 8, none⟩ = some (.int .i64 ohd) ∧ W.cell? ⟨w.heap.size, 4, none⟩ = some (.string ope) ∧ W.cell? ⟨w.heap.size, 5, none⟩ = some (.int .i64 osm))
    (first
      | (refine HXA.out _ ?_; with_reducible assumption)
      | (refine HXA.out _ (Fr.drew ?_); with_reducible first | assumption | exact Fr.refl _ w2))
    (first
      | (go_at_call 56; (with_reducible refine (HO.out _ HF1.out.drew).mono ?_); rintro e u1 ⟨rfl, hb1, hg⟩; have ka1 : Fr (At2 r.c r.h) w2 u1 := Fr.trans ((Fr.refl _ w2).drew) hg; clear hg))
  replace ka1 := Rl.wr_ch ka1
  clear HXA HO hk0
  have hfar : ∀ g, w.heap.size ≤ g → ¬ r.wr g := fun g hg e => by
    have := hwr g e
    omega
  have hw1 : Fr r.wr w u1 := (HF1.out.mono fun _ _ h => False.elim h).trans ka1
  have hbr1 := HBR.out.fr ka1 (hfar _ (Nat.le_succ _))
  have hbo1 := HBO.out.fr ka1 (hfar _ (Nat.le_refl _))
  have hbk1 := hb1.blk
  go_upto_region 22 with (fail)
  have HXA : Hid (∀ W, Fr No u1 W → Fr No u1 W ∧ W.cell? ⟨r.p, 0, none⟩ = some (.pointer (some ⟨r.c, 0, none⟩)) ∧ W.cell? ⟨w.heap.size, 3, none⟩ = some (.string oac)) := fun W hW => by
    have h1 := hbo1.fr hW (fun h => h)
    have h2 := hbk1.fr hW (fun h => h)
    exact ⟨hW, h2.cell 0, h1.cell 3⟩
  have HB1 := Lib.hid hb1
  have HW1 := Lib.hid hw1
  have HBR1 := Lib.hid hbr1
  clear hbr1 hbo1 hbk1 hb1 hw1 ka1 hfar
  have hk0 : Fr No u1 u1.drew := (Fr.refl No u1).drew
  go_region_held3 (fun W => Fr No u1 W ∧ W.cell? ⟨r.p, 0, none⟩ = some (.pointer (some ⟨r.c, 0, none⟩)) ∧ W.cell? ⟨w.heap.size, 3, none⟩ = some (.string oac))
    (first
      | (refine HXA.out _ ?_; with_reducible assumption)
      | (refine HXA.out _ (Fr.alloc ?_ _); with_reducible assumption)
      | (refine HXA.out _ (Fr.drew (Fr.alloc ?_ _)); with_reducible first | assumption | exact Fr.refl _ u1)
      | (refine HXA.out _ (rkeep4 (by with_reducible assumption) (by first | with_reducible assumption | omega))))
    (first
      | (go_at_call 37; (with_reducible refine (HGET.out _ (HB1.out.no (((Fr.refl _ u1).alloc _).drew))).mono ?_); rintro e u2 ⟨rfl, hg⟩; have ka2 : Fr No u1 u2 := Fr.trans ((Fr.refl _ u1).alloc _).drew hg; have hz2 := Blk.fr (Blk.new u1 80 _).drew hg (fun h => h); clear hg; have y0 := hz2.cell 0; have y1 := hz2.cell 1; have y2 := hz2.cell 2; have y3 := hz2.cell 3; have z0 := hz2.frozen 0; have z1 := hz2.frozen 1; have z2 := hz2.frozen 2; have z3 := hz2.frozen 3; simp only [List.getElem?_toArray, List.getElem?_cons_zero, List.getElem?_cons_succ] at y0 y1 y2 y3; have hzl := hz2.lt)
      | (go_at_call 37; (with_reducible refine (HGET.out _ (HB1.out.no (Fr.refl _ u1).drew)).mono ?_); rintro e u2 ⟨rfl, hg⟩; have ka2 : Fr No u1 u2 := Fr.trans (Fr.refl _ u1).drew hg; clear hg))
  · have hx : Blk (u2.alloc (.cells #[.string ⟨gn.toArray⟩, .int .i64 gh, .int .i64 gs, .int .i64 gl] 80)) u2.heap.size 80 #[.string ⟨gn.toArray⟩, .int .i64 gh, .int .i64 gs, .int .i64 gl] := Blk.new u2 80 _
    have hr : Blk (u2.alloc (.cells #[.string ⟨gn.toArray⟩, .int .i64 gh, .int .i64 gs, .int .i64 gl] 80)) (w.heap.size + 1) 41 #[.int .i64 0, .int .i64 0, .int .i64 0, .int .i64 0] := (HBR1.out.fr ka2 (fun h => h)).alloc _
    have hN : Fr No u1 (u2.alloc (.cells #[.string ⟨gn.toArray⟩, .int .i64 gh, .int .i64 gs, .int .i64 gl] 80)) := ka2.alloc _
    clear HXA HGET ka2
    try clear hz2 y0 y1 y2 y3 z0 z1 z2 z3 hzl
    generalize u2.alloc (.cells #[.string ⟨gn.toArray⟩, .int .i64 gh, .int .i64 gs, .int .i64 gl] 80) = u3 at *
    generalize u2.heap.size = g at *
    have x1 := hx.cell 1
    have x2 := hx.cell 2
    have r0 := hr.cell 0
    have r1 := hr.cell 1
    have r2 := hr.cell 2
    have r3 := hr.cell 3
    have f0 := hr.frozen 0
    have f1 := hr.frozen 1
    have f2 := hr.frozen 2
    have f3 := hr.frozen 3
    simp only [List.getElem?_toArray, List.getElem?_cons_zero, List.getElem?_cons_succ] at x1 x2 r0 r1 r2 r3
    clear hx
    by_cases hE : E = 0
    · subst hE
      by_cases hg : ge = 0
      · have HRR := Lib.hid (HX3.out rfl hg)
        subst hg
        have hd := blk_set4 hr (.int .i64 0) (.int .i64 gh) (.int .i64 gs) (.int .i64 0)
        have HD := Lib.hid (rdid_tail HH.out HB1.out HW1.out hN hr (fr_set4 u3 (w.heap.size + 1) (.int .i64 0) (.int .i64 gh) (.int .i64 gs) (.int .i64 0)) (Nat.le_succ _))
        have HDD := Lib.hid hd
        clear hr hd hN
        go_wp2
        have hd := HDD.out
        have d0 := hd.cell 0
        have d1 := hd.cell 1
        have d2 := hd.cell 2
        have d3 := hd.cell 3
        simp only [List.getElem?_toArray, List.getElem?_cons_zero, List.getElem?_cons_succ] at d0 d1 d2 d3
        refine bodyPost_ret (v := .agg #[.int .i64 0, .int .i64 gh, .int .i64 gs, .int .i64 0]) (by simp [results, Tryz.results35, go_sem, d0, d1, d2, d3]) rfl ?_
        exact ⟨by rw [HRR.out]; rfl, HD.out⟩
      · have HRR := Lib.hid (HX2.out rfl hg)
        have e1 : (ge == 0) = false := by simpa using hg
        have e2 : (ge != 0) = true := by simpa using hg
        clear hg
        have hd := blk_set4 hr (.int .i64 ge) (.int .i64 0) (.int .i64 0) (.int .i64 0)
        have HD := Lib.hid (rdid_tail HH.out HB1.out HW1.out hN hr (fr_set4 u3 (w.heap.size + 1) (.int .i64 ge) (.int .i64 0) (.int .i64 0) (.int .i64 0)) (Nat.le_succ _))
        have HDD := Lib.hid hd
        clear hr hd hN
        go_wp2
        have hd := HDD.out
        have d0 := hd.cell 0
        have d1 := hd.cell 1
        have d2 := hd.cell 2
        have d3 := hd.cell 3
        simp only [List.getElem?_toArray, List.getElem?_cons_zero, List.getElem?_cons_succ] at d0 d1 d2 d3
        refine bodyPost_ret (v := .agg #[.int .i64 ge, .int .i64 0, .int .i64 0, .int .i64 0]) (by simp [results, Tryz.results35, go_sem, d0, d1, d2, d3]) rfl ?_
        exact ⟨by rw [HRR.out]; rfl, HD.out⟩
    · have HRR := Lib.hid (HX1.out hE)
      have e1 : (E == 0) = false := by simpa using hE
      have e2 : (E != 0) = true := by simpa using hE
      clear hE
      have hd := blk_set4 hr (.int .i64 E) (.int .i64 0) (.int .i64 0) (.int .i64 0)
      have HD := Lib.hid (rdid_tail HH.out HB1.out HW1.out hN hr (fr_set4 u3 (w.heap.size + 1) (.int .i64 E) (.int .i64 0) (.int .i64 0) (.int .i64 0)) (Nat.le_succ _))
      have HDD := Lib.hid hd
      clear hr hd hN
      go_wp2
      have hd := HDD.out
      have d0 := hd.cell 0
      have d1 := hd.cell 1
      have d2 := hd.cell 2
      have d3 := hd.cell 3
      simp only [List.getElem?_toArray, List.getElem?_cons_zero, List.getElem?_cons_succ] at d0 d1 d2 d3
      refine bodyPost_ret (v := .agg #[.int .i64 E, .int .i64 0, .int .i64 0, .int .i64 0]) (by simp [results, Tryz.results35, go_sem, d0, d1, d2, d3]) rfl ?_
      exact ⟨by rw [HRR.out]; rfl, HD.out⟩
  · have hx : Blk ((((u2.setCell ⟨u1.heap.size, 0, none⟩ (.string ⟨gn.toArray⟩)).setCell ⟨u1.heap.size, 1, none⟩ (.int .i64 gh)).setCell ⟨u1.heap.size, 2, none⟩ (.int .i64 gs)).setCell ⟨u1.heap.size, 3, none⟩ (.int .i64 gl)) u1.heap.size 80 #[.string ⟨gn.toArray⟩, .int .i64 gh, .int .i64 gs, .int .i64 gl] := blk_set4 hz2 _ _ _ _
    have hr : Blk ((((u2.setCell ⟨u1.heap.size, 0, none⟩ (.string ⟨gn.toArray⟩)).setCell ⟨u1.heap.size, 1, none⟩ (.int .i64 gh)).setCell ⟨u1.heap.size, 2, none⟩ (.int .i64 gs)).setCell ⟨u1.heap.size, 3, none⟩ (.int .i64 gl)) (w.heap.size + 1) 41 #[.int .i64 0, .int .i64 0, .int .i64 0, .int .i64 0] := (HBR1.out.fr ka2 (fun h => h)).fr (fr_set4 u2 u1.heap.size _ _ _ _) (fun e => by have := HBR1.out.lt; have : w.heap.size + 1 = u1.heap.size := e; omega)
    have hN : Fr No u1 ((((u2.setCell ⟨u1.heap.size, 0, none⟩ (.string ⟨gn.toArray⟩)).setCell ⟨u1.heap.size, 1, none⟩ (.int .i64 gh)).setCell ⟨u1.heap.size, 2, none⟩ (.int .i64 gs)).setCell ⟨u1.heap.size, 3, none⟩ (.int .i64 gl)) := rkeep4 ka2 (Nat.le_refl _)
    clear HXA HGET ka2
    try clear hz2 y0 y1 y2 y3 z0 z1 z2 z3 hzl
    generalize (((u2.setCell ⟨u1.heap.size, 0, none⟩ (.string ⟨gn.toArray⟩)).setCell ⟨u1.heap.size, 1, none⟩ (.int .i64 gh)).setCell ⟨u1.heap.size, 2, none⟩ (.int .i64 gs)).setCell ⟨u1.heap.size, 3, none⟩ (.int .i64 gl) = u3 at *
    generalize u1.heap.size = g at *
    have x1 := hx.cell 1
    have x2 := hx.cell 2
    have r0 := hr.cell 0
    have r1 := hr.cell 1
    have r2 := hr.cell 2
    have r3 := hr.cell 3
    have f0 := hr.frozen 0
    have f1 := hr.frozen 1
    have f2 := hr.frozen 2
    have f3 := hr.frozen 3
    simp only [List.getElem?_toArray, List.getElem?_cons_zero, List.getElem?_cons_succ] at x1 x2 r0 r1 r2 r3
    clear hx
    by_cases hE : E = 0
    · subst hE
      by_cases hg : ge = 0
      · have HRR := Lib.hid (HX3.out rfl hg)
        subst hg
        have hd := blk_set4 hr (.int .i64 0) (.int .i64 gh) (.int .i64 gs) (.int .i64 0)
        have HD := Lib.hid (rdid_tail HH.out HB1.out HW1.out hN hr (fr_set4 u3 (w.heap.size + 1) (.int .i64 0) (.int .i64 gh) (.int .i64 gs) (.int .i64 0)) (Nat.le_succ _))
        have HDD := Lib.hid hd
        clear hr hd hN
        go_wp2
        have hd := HDD.out
        have d0 := hd.cell 0
        have d1 := hd.cell 1
        have d2 := hd.cell 2
        have d3 := hd.cell 3
        simp only [List.getElem?_toArray, List.getElem?_cons_zero, List.getElem?_cons_succ] at d0 d1 d2 d3
        refine bodyPost_ret (v := .agg #[.int .i64 0, .int .i64 gh, .int .i64 gs, .int .i64 0]) (by simp [results, Tryz.results35, go_sem, d0, d1, d2, d3]) rfl ?_
        exact ⟨by rw [HRR.out]; rfl, HD.out⟩
      · have HRR := Lib.hid (HX2.out rfl hg)
        have e1 : (ge == 0) = false := by simpa using hg
        have e2 : (ge != 0) = true := by simpa using hg
        clear hg
        have hd := blk_set4 hr (.int .i64 ge) (.int .i64 0) (.int .i64 0) (.int .i64 0)
        have HD := Lib.hid (rdid_tail HH.out HB1.out HW1.out hN hr (fr_set4 u3 (w.heap.size + 1) (.int .i64 ge) (.int .i64 0) (.int .i64 0) (.int .i64 0)) (Nat.le_succ _))
        have HDD := Lib.hid hd
        clear hr hd hN
        go_wp2
        have hd := HDD.out
        have d0 := hd.cell 0
        have d1 := hd.cell 1
        have d2 := hd.cell 2
        have d3 := hd.cell 3
        simp only [List.getElem?_toArray, List.getElem?_cons_zero, List.getElem?_cons_succ] at d0 d1 d2 d3
        refine bodyPost_ret (v := .agg #[.int .i64 ge, .int .i64 0, .int .i64 0, .int .i64 0]) (by simp [results, Tryz.results35, go_sem, d0, d1, d2, d3]) rfl ?_
        exact ⟨by rw [HRR.out]; rfl, HD.out⟩
    · have HRR := Lib.hid (HX1.out hE)
      have e1 : (E == 0) = false := by simpa using hE
      have e2 : (E != 0) = true := by simpa using hE
      clear hE
      have hd := blk_set4 hr (.int .i64 E) (.int .i64 0) (.int .i64 0) (.int .i64 0)
      have HD := Lib.hid (rdid_tail HH.out HB1.out HW1.out hN hr (fr_set4 u3 (w.heap.size + 1) (.int .i64 E) (.int .i64 0) (.int .i64 0) (.int .i64 0)) (Nat.le_succ _))
      have HDD := Lib.hid hd
      clear hr hd hN
      go_wp2
      have hd := HDD.out
      have d0 := hd.cell 0
      have d1 := hd.cell 1
      have d2 := hd.cell 2
      have d3 := hd.cell 3
      simp only [List.getElem?_toArray, List.getElem?_cons_zero, List.getElem?_cons_succ] at d0 d1 d2 d3
      refine bodyPost_ret (v := .agg #[.int .i64 E, .int .i64 0, .int .i64 0, .int .i64 0]) (by simp [results, Tryz.results35, go_sem, d0, d1, d2, d3]) rfl ?_
      exact ⟨by rw [HRR.out]; rfl, HD.out⟩
end Go.Proofs.YtjbeaoabhhaiiaaGreat

namespace Go.Proofs.YtjbeaoabhhaiiaaGreat
open Go.RowKit Go.My Go.Maps
set_option linter.unusedSimpArgs false
set_option linter.unusedVariables false
attribute [local go_sem ↓] Go.wp_at_zero Go.wp_at_succ

set_option maxRecDepth 100000 in
set_option maxHeartbeats 4000000 in
theorem rdo_release (F : Nat → Prop) (r : Rl) (b : Bk) (o : Od) (v : Value) (w : World) (h : RbS w r b) (ho : o.ok) (hv : LgS w F v o.legs) (h100 : o.legs.length ≤ 100) (hF : ∀ k, F k → k < w.heap.size ∧ k ≠ r.c) (hr : rightO o = true) (hk : o.kd = 5) :
    Calls Tryz.prog 35 #[.pointer (some ⟨r.p, 0, none⟩), o.val v] w (DidR r (effR b o) (effB b o) w) := by
  have hI := eff_inv h.inv ho hr
  have eB : effB b o = ⟨freeSS b.S b.H o.an o.hold, freeHH b.S b.H o.an o.hold, b.cl⟩ := by unfold effB; rw [if_neg (show ¬ o.kd = 1 by omega), if_neg (show ¬ o.kd = 2 by omega), if_neg (show ¬ o.kd = 3 by omega), if_neg (show ¬ o.kd = 4 by omega), if_pos hk]
  have eR : effR b o = aboutR (freeSS b.S b.H o.an o.hold) o.an (freeE b.S b.H o.an o.hold) := by unfold effR; rw [if_neg (show ¬ o.kd = 1 by omega), if_neg (show ¬ o.kd = 2 by omega), if_neg (show ¬ o.kd = 3 by omega), if_neg (show ¬ o.kd = 4 by omega), if_pos hk]
  rw [eB] at hI
  rw [eB, eR]
  have HRT : Hid (∀ W, Fr No w W → Calls Tryz.prog 52 #[o.val v] W fun e w' => e = .returned (.bool true) ∧ Fr No W w') := fun W hW => by
    have hx := refrightO_any F o v W ho (hv.no hW) h100
    rw [hr] at hx
    exact hx
  obtain ⟨-, -, -, hac, hpe, hsm, hpr, hhd, -⟩ := ho
  clear eB eR hr
  obtain ⟨ocl, osq, okd, oac, ope, osm, olg, opr, ohd, ont⟩ := o
  unfold Od.val Od.cs Od.an at *
  simp only at hac hpe hsm hpr hhd hI HRT hk hv h100 ⊢
  subst hk
  have HH := Lib.hid h
  have HI := Lib.hid hI
  have HO : Hid (∀ W, Fr No w W → Calls Tryz.prog 57 #[.pointer (some ⟨r.h, 0, none⟩), .pointer (some ⟨r.c, 0, none⟩), .string oac, .int .i64 ohd] W fun e w' => e = .returned (.int .i64 (freeE b.S b.H oac.data.toList ohd)) ∧ RbS w' r ⟨freeSS b.S b.H oac.data.toList ohd, freeHH b.S b.H oac.data.toList ohd, b.cl⟩ ∧ Fr (At2 r.c r.h) W w') := fun W hW => (rfree_any r.c r.h b.S b.H oac ohd W (h.ch.no hW) h.inv.st.kp.inv (h.hd.no hW) h.inv.st.rise h.inv.st.pos (by have := h.inv.st.len; omega)).mono fun e w' hx => ⟨hx.1, (h.no hW).both hx hI, hx.2.2.2⟩
  generalize freeE b.S b.H oac.data.toList ohd = E at *
  generalize freeSS b.S b.H oac.data.toList ohd = T at *
  generalize freeHH b.S b.H oac.data.toList ohd = T2 at *
  rw [about_num T oac.data.toList E]
  have HX1 : Hid (E ≠ 0 → numR (aboutR T oac.data.toList E) 0 = ⟨E, 0, 0, 0⟩) := about1 T oac.data.toList E 0
  have HX2 : Hid (E = 0 → (if (getA T oac.data.toList).isSome then (0 : Int) else 6) ≠ 0 → numR (aboutR T oac.data.toList E) 0 = ⟨(if (getA T oac.data.toList).isSome then (0 : Int) else 6), 0, 0, 0⟩) := fun h1 h2 => by
    rw [h1]
    exact about2 T oac.data.toList 0 _ rfl h2
  have HX3 : Hid (E = 0 → (if (getA T oac.data.toList).isSome then (0 : Int) else 6) = 0 → numR (aboutR T oac.data.toList E) 0 = ⟨0, (getV T oac.data.toList).hv, (getV T oac.data.toList).st, 0⟩) := fun h1 h2 => by
    rw [h1]
    exact about3 T oac.data.toList 0 h2
  have HGET : Hid (∀ W, RbS W r ⟨T, T2, b.cl⟩ → Calls Tryz.prog 37 #[.pointer (some ⟨r.c, 0, none⟩), .string oac] W fun e w' => e = .returned (.tuple #[(getV T oac.data.toList).val, .int .i64 (if (getA T oac.data.toList).isSome then 0 else 6)]) ∧ Fr No W w') := fun W hW => refget_any r.c T oac W hW.ch hW.inv.st.kp.inv
  generalize numR (aboutR T oac.data.toList E) 0 = X at *
  generalize (if (getA T oac.data.toList).isSome then (0 : Int) else 6) = ge at *
  generalize getV T oac.data.toList = gv at *
  obtain ⟨gn, gh, gs, gl⟩ := gv
  unfold Ac.val at HGET
  simp only at HX1 HX2 HX3 HGET
  have hbk := h.blk
  have hbo := Blk.new w 35 #[.int .i64 ocl, .int .i64 osq, .int .i64 5, .string oac, .string ope, .int .i64 osm, v, .int .i64 opr, .int .i64 ohd, .string ont]
  have hbr := Blk.new (w.alloc (.cells #[.int .i64 ocl, .int .i64 osq, .int .i64 5, .string oac, .string ope, .int .i64 osm, v, .int .i64 opr, .int .i64 ohd, .string ont] 35)) 41 #[.int .i64 0, .int .i64 0, .int .i64 0, .int .i64 0]
  rw [World.size_alloc] at hbr
  have hbo1 := hbo.alloc (.cells #[.int .i64 0, .int .i64 0, .int .i64 0, .int .i64 0] 41)
  have hf1 : Fr No w ((w.alloc (.cells #[.int .i64 ocl, .int .i64 osq, .int .i64 5, .string oac, .string ope, .int .i64 osm, v, .int .i64 opr, .int .i64 ohd, .string ont] 35)).alloc (.cells #[.int .i64 0, .int .i64 0, .int .i64 0, .int .i64 0] 41)) := ((Fr.refl _ _).alloc _).alloc _
  have hwr : ∀ i, r.wr i → i < w.heap.size := h.lt
  clear h hI hac hsm hpe hpr hhd hbo hv h100 hF
  go_enter Tryz.func35, Tryz.ntmps35
  have o0 := hbo1.cell 0
  have o1 := hbo1.cell 1
  have o2 := hbo1.cell 2
  have o3 := hbo1.cell 3
  have o4 := hbo1.cell 4
  have o5 := hbo1.cell 5
  have o6 := hbo1.cell 6
  have o7 := hbo1.cell 7
  have o8 := hbo1.cell 8
  have o9 := hbo1.cell 9
  simp only [List.getElem?_toArray, List.getElem?_cons_zero, List.getElem?_cons_succ] at o0 o1 o2 o3 o4 o5 o6 o7 o8 o9
  go_wp2_with fail
  (with_reducible refine (HRT.out _ hf1).mono ?_)
  rintro e w1 ⟨rfl, hg0⟩
  have hf1 := hf1.trans hg0
  have hbo1 := hbo1.fr hg0 (fun h => h)
  have hbr := hbr.fr hg0 (fun h => h)
  clear hg0 HRT o0 o1 o2 o3 o4 o5 o6 o7 o8 o9
  have o2 := hbo1.cell 2
  simp only [List.getElem?_toArray, List.getElem?_cons_zero, List.getElem?_cons_succ] at o2
  go_upto_region 3 with (fail)
  have HF1 := Lib.hid hf1
  have HBR := Lib.hid hbr
  have HBO := Lib.hid hbo1
  have HBK := Lib.hid (hbk.fr hf1 (fun h => h))
  clear hf1 hbr hbo1 hbk
  go_quiet (fail)
  have hq1 : Fr No w1 (w1.drewN nq) := (Fr.refl No w1).drewN nq
  replace HF1 := Lib.hid (HF1.out.trans hq1)
  replace HBR := Lib.hid (HBR.out.fr hq1 fun h => h)
  replace HBO := Lib.hid (HBO.out.fr hq1 fun h => h)
  replace HBK := Lib.hid (HBK.out.fr hq1 fun h => h)
  clear hq1 o2
  generalize w1.drewN nq = w2 at *
  clear w1
  have o2 := HBO.out.cell 2
  simp only [List.getElem?_toArray, List.getElem?_cons_zero, List.getElem?_cons_succ] at o2
  go_upto_region 18 with (fail)
  have HXA : Hid (∀ W, Fr (At2 r.c r.h) w2 W → Fr (At2 r.c r.h) w2 W ∧ W.cell? ⟨r.p, 0, none⟩ = some (.pointer (some ⟨r.c, 0, none⟩)) ∧ W.cell? ⟨r.p, 1, none⟩ = some (.pointer (some ⟨r.h, 0, none⟩)) ∧ W.cell? ⟨w.heap.size, 3, none⟩ = some (.string oac) ∧ W.cell? ⟨w.heap.size, 8, none⟩ = some (.int .i64 ohd)) := fun W hW => by
    have h1 := HBO.out.fr hW (fun e => by have := hwr w.heap.size (by rcases e with e | e; exact .inr (.inl e); exact .inr (.inr e)); omega)
    have h2 := HBK.out.fr hW (fun e => by rcases e with e | e; exact HH.out.ne_pc e; exact HH.out.ne_ph e)
    exact ⟨hW, h2.cell 0, h2.cell 1, h1.cell 3, h1.cell 8⟩
  have hk0 : Fr (At2 r.c r.h) w2 w2.drew := (Fr.refl _ w2).drew
  go_region_held3 (fun W => Fr (At2 r.c r.h) w2 W ∧ W.cell? ⟨r.p, 0, none⟩ = some (.pointer (some ⟨r.c, 0, none⟩)) ∧ W.cell? ⟨r.p, 1, none⟩ = some (.pointer (some ⟨r.h, 0, none⟩)) ∧ W.cell? ⟨w.heap.size, 3, none⟩ = some (.string oac) ∧ W.cell? ⟨w.heap.size, 8, none⟩ = some (.int .i64 ohd))
    (first
      | (refine HXA.out _ ?_; with_reducible assumption)
      | (refine HXA.out _ (Fr.drew ?_); with_reducible first | assumption | exact Fr.refl _ w2))
    (first
      | (go_at_call 57; (with_reducible refine (HO.out _ HF1.out.drew).mono ?_); rintro e u1 ⟨rfl, hb1, hg⟩; have ka1 : Fr (At2 r.c r.h) w2 u1 := Fr.trans ((Fr.refl _ w2).drew) hg; clear hg))
  replace ka1 := Rl.wr_ch ka1
  clear HXA HO hk0
  have hfar : ∀ g, w.heap.size ≤ g → ¬ r.wr g := fun g hg e => by
    have := hwr g e
    omega
  have hw1 : Fr r.wr w u1 := (HF1.out.mono fun _ _ h => False.elim h).trans ka1
  have hbr1 := HBR.out.fr ka1 (hfar _ (Nat.le_succ _))
  have hbo1 := HBO.out.fr ka1 (hfar _ (Nat.le_refl _))
  have hbk1 := hb1.blk
  go_upto_region 22 with (fail)
  have HXA : Hid (∀ W, Fr No u1 W → Fr No u1 W ∧ W.cell? ⟨r.p, 0, none⟩ = some (.pointer (some ⟨r.c, 0, none⟩)) ∧ W.cell? ⟨w.heap.size, 3, none⟩ = some (.string oac)) := fun W hW => by
    have h1 := hbo1.fr hW (fun h => h)
    have h2 := hbk1.fr hW (fun h => h)
    exact ⟨hW, h2.cell 0, h1.cell 3⟩
  have HB1 := Lib.hid hb1
  have HW1 := Lib.hid hw1
  have HBR1 := Lib.hid hbr1
  clear hbr1 hbo1 hbk1 hb1 hw1 ka1 hfar
  have hk0 : Fr No u1 u1.drew := (Fr.refl No u1).drew
  go_region_held3 (fun W => Fr No u1 W ∧ W.cell? ⟨r.p, 0, none⟩ = some (.pointer (some ⟨r.c, 0, none⟩)) ∧ W.cell? ⟨w.heap.size, 3, none⟩ = some (.string oac))
    (first
      | (refine HXA.out _ ?_; with_reducible assumption)
      | (refine HXA.out _ (Fr.alloc ?_ _); with_reducible assumption)
      | (refine HXA.out _ (Fr.drew (Fr.alloc ?_ _)); with_reducible first | assumption | exact Fr.refl _ u1)
      | (refine HXA.out _ (rkeep4 (by with_reducible assumption) (by first | with_reducible assumption | omega))))
    (first
      | (go_at_call 37; (with_reducible refine (HGET.out _ (HB1.out.no (((Fr.refl _ u1).alloc _).drew))).mono ?_); rintro e u2 ⟨rfl, hg⟩; have ka2 : Fr No u1 u2 := Fr.trans ((Fr.refl _ u1).alloc _).drew hg; have hz2 := Blk.fr (Blk.new u1 80 _).drew hg (fun h => h); clear hg; have y0 := hz2.cell 0; have y1 := hz2.cell 1; have y2 := hz2.cell 2; have y3 := hz2.cell 3; have z0 := hz2.frozen 0; have z1 := hz2.frozen 1; have z2 := hz2.frozen 2; have z3 := hz2.frozen 3; simp only [List.getElem?_toArray, List.getElem?_cons_zero, List.getElem?_cons_succ] at y0 y1 y2 y3; have hzl := hz2.lt)
      | (go_at_call 37; (with_reducible refine (HGET.out _ (HB1.out.no (Fr.refl _ u1).drew)).mono ?_); rintro e u2 ⟨rfl, hg⟩; have ka2 : Fr No u1 u2 := Fr.trans (Fr.refl _ u1).drew hg; clear hg))
  · have hx : Blk (u2.alloc (.cells #[.string ⟨gn.toArray⟩, .int .i64 gh, .int .i64 gs, .int .i64 gl] 80)) u2.heap.size 80 #[.string ⟨gn.toArray⟩, .int .i64 gh, .int .i64 gs, .int .i64 gl] := Blk.new u2 80 _
    have hr : Blk (u2.alloc (.cells #[.string ⟨gn.toArray⟩, .int .i64 gh, .int .i64 gs, .int .i64 gl] 80)) (w.heap.size + 1) 41 #[.int .i64 0, .int .i64 0, .int .i64 0, .int .i64 0] := (HBR1.out.fr ka2 (fun h => h)).alloc _
    have hN : Fr No u1 (u2.alloc (.cells #[.string ⟨gn.toArray⟩, .int .i64 gh, .int .i64 gs, .int .i64 gl] 80)) := ka2.alloc _
    clear HXA HGET ka2
    try clear hz2 y0 y1 y2 y3 z0 z1 z2 z3 hzl
    generalize u2.alloc (.cells #[.string ⟨gn.toArray⟩, .int .i64 gh, .int .i64 gs, .int .i64 gl] 80) = u3 at *
    generalize u2.heap.size = g at *
    have x1 := hx.cell 1
    have x2 := hx.cell 2
    have r0 := hr.cell 0
    have r1 := hr.cell 1
    have r2 := hr.cell 2
    have r3 := hr.cell 3
    have f0 := hr.frozen 0
    have f1 := hr.frozen 1
    have f2 := hr.frozen 2
    have f3 := hr.frozen 3
    simp only [List.getElem?_toArray, List.getElem?_cons_zero, List.getElem?_cons_succ] at x1 x2 r0 r1 r2 r3
    clear hx
    by_cases hE : E = 0
    · subst hE
      by_cases hg : ge = 0
      · have HRR := Lib.hid (HX3.out rfl hg)
        subst hg
        have hd := blk_set4 hr (.int .i64 0) (.int .i64 gh) (.int .i64 gs) (.int .i64 0)
        have HD := Lib.hid (rdid_tail HH.out HB1.out HW1.out hN hr (fr_set4 u3 (w.heap.size + 1) (.int .i64 0) (.int .i64 gh) (.int .i64 gs) (.int .i64 0)) (Nat.le_succ _))
        have HDD := Lib.hid hd
        clear hr hd hN
        go_wp2
        have hd := HDD.out
        have d0 := hd.cell 0
        have d1 := hd.cell 1
        have d2 := hd.cell 2
        have d3 := hd.cell 3
        simp only [List.getElem?_toArray, List.getElem?_cons_zero, List.getElem?_cons_succ] at d0 d1 d2 d3
        refine bodyPost_ret (v := .agg #[.int .i64 0, .int .i64 gh, .int .i64 gs, .int .i64 0]) (by simp [results, Tryz.results35, go_sem, d0, d1, d2, d3]) rfl ?_
        exact ⟨by rw [HRR.out]; rfl, HD.out⟩
      · have HRR := Lib.hid (HX2.out rfl hg)
        have e1 : (ge == 0) = false := by simpa using hg
        have e2 : (ge != 0) = true := by simpa using hg
        clear hg
        have hd := blk_set4 hr (.int .i64 ge) (.int .i64 0) (.int .i64 0) (.int .i64 0)
        have HD := Lib.hid (rdid_tail HH.out HB1.out HW1.out hN hr (fr_set4 u3 (w.heap.size + 1) (.int .i64 ge) (.int .i64 0) (.int .i64 0) (.int .i64 0)) (Nat.le_succ _))
        have HDD := Lib.hid hd
        clear hr hd hN
        go_wp2
        have hd := HDD.out
        have d0 := hd.cell 0
        have d1 := hd.cell 1
        have d2 := hd.cell 2
        have d3 := hd.cell 3
        simp only [List.getElem?_toArray, List.getElem?_cons_zero, List.getElem?_cons_succ] at d0 d1 d2 d3
        refine bodyPost_ret (v := .agg #[.int .i64 ge, .int .i64 0, .int .i64 0, .int .i64 0]) (by simp [results, Tryz.results35, go_sem, d0, d1, d2, d3]) rfl ?_
        exact ⟨by rw [HRR.out]; rfl, HD.out⟩
    · have HRR := Lib.hid (HX1.out hE)
      have e1 : (E == 0) = false := by simpa using hE
      have e2 : (E != 0) = true := by simpa using hE
      clear hE
      have hd := blk_set4 hr (.int .i64 E) (.int .i64 0) (.int .i64 0) (.int .i64 0)
      have HD := Lib.hid (rdid_tail HH.out HB1.out HW1.out hN hr (fr_set4 u3 (w.heap.size + 1) (.int .i64 E) (.int .i64 0) (.int .i64 0) (.int .i64 0)) (Nat.le_succ _))
      have HDD := Lib.hid hd
      clear hr hd hN
      go_wp2
      have hd := HDD.out
      have d0 := hd.cell 0
      have d1 := hd.cell 1
      have d2 := hd.cell 2
      have d3 := hd.cell 3
      simp only [List.getElem?_toArray, List.getElem?_cons_zero, List.getElem?_cons_succ] at d0 d1 d2 d3
      refine bodyPost_ret (v := .agg #[.int .i64 E, .int .i64 0, .int .i64 0, .int .i64 0]) (by simp [results, Tryz.results35, go_sem, d0, d1, d2, d3]) rfl ?_
      exact ⟨by rw [HRR.out]; rfl, HD.out⟩
  · have hx : Blk ((((u2.setCell ⟨u1.heap.size, 0, none⟩ (.string ⟨gn.toArray⟩)).setCell ⟨u1.heap.size, 1, none⟩ (.int .i64 gh)).setCell ⟨u1.heap.size, 2, none⟩ (.int .i64 gs)).setCell ⟨u1.heap.size, 3, none⟩ (.int .i64 gl)) u1.heap.size 80 #[.string ⟨gn.toArray⟩, .int .i64 gh, .int .i64 gs, .int .i64 gl] := blk_set4 hz2 _ _ _ _
    have hr : Blk ((((u2.setCell ⟨u1.heap.size, 0, none⟩ (.string ⟨gn.toArray⟩)).setCell ⟨u1.heap.size, 1, none⟩ (.int .i64 gh)).setCell ⟨u1.heap.size, 2, none⟩ (.int .i64 gs)).setCell ⟨u1.heap.size, 3, none⟩ (.int .i64 gl)) (w.heap.size + 1) 41 #[.int .i64 0, .int .i64 0, .int .i64 0, .int .i64 0] := (HBR1.out.fr ka2 (fun h => h)).fr (fr_set4 u2 u1.heap.size _ _ _ _) (fun e => by have := HBR1.out.lt; have : w.heap.size + 1 = u1.heap.size := e; omega)
    have hN : Fr No u1 ((((u2.setCell ⟨u1.heap.size, 0, none⟩ (.string ⟨gn.toArray⟩)).setCell ⟨u1.heap.size, 1, none⟩ (.int .i64 gh)).setCell ⟨u1.heap.size, 2, none⟩ (.int .i64 gs)).setCell ⟨u1.heap.size, 3, none⟩ (.int .i64 gl)) := rkeep4 ka2 (Nat.le_refl _)
    clear HXA HGET ka2
    try clear hz2 y0 y1 y2 y3 z0 z1 z2 z3 hzl
    generalize (((u2.setCell ⟨u1.heap.size, 0, none⟩ (.string ⟨gn.toArray⟩)).setCell ⟨u1.heap.size, 1, none⟩ (.int .i64 gh)).setCell ⟨u1.heap.size, 2, none⟩ (.int .i64 gs)).setCell ⟨u1.heap.size, 3, none⟩ (.int .i64 gl) = u3 at *
    generalize u1.heap.size = g at *
    have x1 := hx.cell 1
    have x2 := hx.cell 2
    have r0 := hr.cell 0
    have r1 := hr.cell 1
    have r2 := hr.cell 2
    have r3 := hr.cell 3
    have f0 := hr.frozen 0
    have f1 := hr.frozen 1
    have f2 := hr.frozen 2
    have f3 := hr.frozen 3
    simp only [List.getElem?_toArray, List.getElem?_cons_zero, List.getElem?_cons_succ] at x1 x2 r0 r1 r2 r3
    clear hx
    by_cases hE : E = 0
    · subst hE
      by_cases hg : ge = 0
      · have HRR := Lib.hid (HX3.out rfl hg)
        subst hg
        have hd := blk_set4 hr (.int .i64 0) (.int .i64 gh) (.int .i64 gs) (.int .i64 0)
        have HD := Lib.hid (rdid_tail HH.out HB1.out HW1.out hN hr (fr_set4 u3 (w.heap.size + 1) (.int .i64 0) (.int .i64 gh) (.int .i64 gs) (.int .i64 0)) (Nat.le_succ _))
        have HDD := Lib.hid hd
        clear hr hd hN
        go_wp2
        have hd := HDD.out
        have d0 := hd.cell 0
        have d1 := hd.cell 1
        have d2 := hd.cell 2
        have d3 := hd.cell 3
        simp only [List.getElem?_toArray, List.getElem?_cons_zero, List.getElem?_cons_succ] at d0 d1 d2 d3
        refine bodyPost_ret (v := .agg #[.int .i64 0, .int .i64 gh, .int .i64 gs, .int .i64 0]) (by simp [results, Tryz.results35, go_sem, d0, d1, d2, d3]) rfl ?_
        exact ⟨by rw [HRR.out]; rfl, HD.out⟩
      · have HRR := Lib.hid (HX2.out rfl hg)
        have e1 : (ge == 0) = false := by simpa using hg
        have e2 : (ge != 0) = true := by simpa using hg
        clear hg
        have hd := blk_set4 hr (.int .i64 ge) (.int .i64 0) (.int .i64 0) (.int .i64 0)
        have HD := Lib.hid (rdid_tail HH.out HB1.out HW1.out hN hr (fr_set4 u3 (w.heap.size + 1) (.int .i64 ge) (.int .i64 0) (.int .i64 0) (.int .i64 0)) (Nat.le_succ _))
        have HDD := Lib.hid hd
        clear hr hd hN
        go_wp2
        have hd := HDD.out
        have d0 := hd.cell 0
        have d1 := hd.cell 1
        have d2 := hd.cell 2
        have d3 := hd.cell 3
        simp only [List.getElem?_toArray, List.getElem?_cons_zero, List.getElem?_cons_succ] at d0 d1 d2 d3
        refine bodyPost_ret (v := .agg #[.int .i64 ge, .int .i64 0, .int .i64 0, .int .i64 0]) (by simp [results, Tryz.results35, go_sem, d0, d1, d2, d3]) rfl ?_
        exact ⟨by rw [HRR.out]; rfl, HD.out⟩
    · have HRR := Lib.hid (HX1.out hE)
      have e1 : (E == 0) = false := by simpa using hE
      have e2 : (E != 0) = true := by simpa using hE
      clear hE
      have hd := blk_set4 hr (.int .i64 E) (.int .i64 0) (.int .i64 0) (.int .i64 0)
      have HD := Lib.hid (rdid_tail HH.out HB1.out HW1.out hN hr (fr_set4 u3 (w.heap.size + 1) (.int .i64 E) (.int .i64 0) (.int .i64 0) (.int .i64 0)) (Nat.le_succ _))
      have HDD := Lib.hid hd
      clear hr hd hN
      go_wp2
      have hd := HDD.out
      have d0 := hd.cell 0
      have d1 := hd.cell 1
      have d2 := hd.cell 2
      have d3 := hd.cell 3
      simp only [List.getElem?_toArray, List.getElem?_cons_zero, List.getElem?_cons_succ] at d0 d1 d2 d3
      refine bodyPost_ret (v := .agg #[.int .i64 E, .int .i64 0, .int .i64 0, .int .i64 0]) (by simp [results, Tryz.results35, go_sem, d0, d1, d2, d3]) rfl ?_
      exact ⟨by rw [HRR.out]; rfl, HD.out⟩
end Go.Proofs.YtjbeaoabhhaiiaaGreat
