/- Desk.Do. stream.Events. What the laws on streams begin with: the first orders of a list. What the laws on streams are made of: events as the document has them, the same events. A book's accounts have names that may be. What who asks is told. In lists. What the laws on streams call first. -/
import Derived.Test.YtlanhclgbkhdlaaGreatQ17
import Derived.Test.YtlanhclgbkhdlaaGreatQ16
import Derived.Test.YtlanhclgbkhdlaaGreatQ11
import Derived.Test.YtlanhclgbkhdlaaGreatQ10
namespace Go.Proofs.YtlanhclgbkhdlaaGreat
open Go.RowKit Go.My Go.Maps
set_option linter.unusedSimpArgs false
set_option linter.unusedVariables false
attribute [local go_sem ↓] Go.wp_at_zero Go.wp_at_succ
section
variable {d : Dp} {f : List UInt8 → Option Value} {N : Nat} {b : Bk} {E : List UInt8 → List Ev} {k : Nat} {g : List UInt8 → Option Rdr}
set_option maxRecDepth 100000 in
set_option maxHeartbeats 4000000 in
theorem ddo_any (F : Nat → Prop) (o : Od) (v : Value) (w : World) (h : DkS w d f N b E k g) (ho : o.ok) (hv : LgS w F v o.legs) (hF : ∀ i, F i → i < w.heap.size ∧ ¬ d.q.all i) (hL : o.legs.length ≤ 100000) (hN : N ≤ 1000000) (hE : ∀ nm, (E nm).length ≤ 999999) :
    Calls Tryz.prog 16 #[.pointer (some ⟨d.p, 0, none⟩), o.val v] w (DoneS d f N b E k g o w) := by
  have HD := Lib.hid h
  have HDO : Hid (∀ W, Fr No w W → Calls Tryz.prog 31 #[.pointer (some ⟨d.q.p, 0, none⟩), o.val v] W (DidB d.q (doR b o) (doB b o) W)) := fun W hW =>
    do_any F d.q b o v W (h.bk.no hW) ho (hv.no hW) (fun i hi => ⟨Nat.lt_of_lt_of_le (hF i hi).1 hW.size, fun e => (hF i hi).2 (.inr (.inr (.inl e)))⟩)
  have HTC : Hid (∀ W, Fr d.q.wr w W → Calls Tryz.prog 25 #[o.val v] W (RetOwn W 9 1 none (touchL o).length (ts (touchL o)))) := fun W hW =>
    touches_any F o v W (hv.fr12 hW (fun i hi _ e => (hF i hi).2 (Pl.wr_all e))) hL
  have HTL : Hid ((touchL o).length ≤ 1000000) := by
    have : (touchL o).length ≤ 2 + o.legs.length := by
      unfold touchL
      refine Nat.le_trans (upOf_length _) ?_
      unfold namesO
      refine Nat.le_trans (List.length_filter_le _ _) ?_
      rw [allN_length o _ (Nat.le_refl _)]
      exact Nat.le_refl _
    show _ ≤ _
    omega
  have HBI : Hid (BkI (doB b o)) := do_inv h.bk.inv ho
  have HSL : Hid ((doB b o).S.length ≤ 12) := HBI.out.st.kp.inv.len
  have HOK : Hid ((doR b o).err = 0 → ∀ nm, stepEv (doB b o).S o (doB b o).S.length nm = newEv b o nm) := fun e nm => stepEv_all e nm
  have HNO : Hid ((doR b o).err ≠ 0 → ∀ nm, newEv b o nm = []) := fun e nm => if_neg fun h => e h.1
  have HST : Hid (∀ j (hj : j < (doB b o).S.length), ((doB b o).S[j].name ∈ touchL o → ∀ nm, (if nm = (doB b o).S[j].name then (E nm ++ stepEv (doB b o).S o j nm) ++ [⟨o.cl, o.sq, o.kd, (doB b o).S[j].hv, (doB b o).S[j].st⟩] else E nm ++ stepEv (doB b o).S o j nm) = E nm ++ stepEv (doB b o).S o (j + 1) nm) ∧ ((doB b o).S[j].name ∉ touchL o → ∀ nm, E nm ++ stepEv (doB b o).S o j nm = E nm ++ stepEv (doB b o).S o (j + 1) nm)) := fun j hj =>
    ⟨fun ht nm => stepEv_put HBI.out.st.kp.inv.rise hj ht E nm, fun ht nm => by rw [stepEv_skip HBI.out.st.kp.inv.rise hj ht nm]⟩
  have HSE : Hid (∀ j nm, (stepEv (doB b o).S o j nm).length ≤ 1) := fun j nm => stepEv_len _ _ _ _
  have HS0 : Hid (∀ nm, stepEv (doB b o).S o 0 nm = []) := fun nm => rfl
  have HNS : Hid (∀ j (hj : j < (doB b o).S.length), (doB b o).S[j].name.length ≤ maxLen) := fun j hj => by
    have := HBI.out.st.kp.inv.nm _ (List.getElem_mem hj)
    unfold maxLen
    omega
  have HLT := Lib.hid h.lt
  have HQE := Lib.hid h.qe
  obtain ⟨c0, hc0, hev⟩ := h.ev
  obtain ⟨vB, vd, rfl, -, -⟩ := hv.form
  have HDONE : Hid (∀ f' w' re rh rs rn, doR b o = ⟨re, rh, rs, rn⟩ → DkS w' d f' (N + 12) (doB b o) (fun nm => E nm ++ newEv b o nm) k g → Fr (d.wr f) w w' → (∀ i, evB d.m f' i → evB d.m f i ∨ w.heap.size ≤ i) → DoneS d f N b E k g o w (.returned (.agg #[.int .i64 re, .int .i64 rh, .int .i64 rs, .int .i64 rn])) w') := fun f' w' re rh rs rn e h1 h2 h3 => ⟨f', by rw [e]; rfl, h1, h2, h3⟩
  obtain ⟨P, hP⟩ : ∃ P, P = DoneS d f N b E k g o w := ⟨_, rfl⟩
  rw [← hP] at HDONE ⊢
  clear hP
  generalize newEv b o = NE at *
  generalize stepEv (doB b o).S o = SE at *
  generalize doR b o = R at *
  generalize doB b o = b' at *
  generalize touchL o = T at *
  obtain ⟨re, rh, rs, rn⟩ := R
  simp only at HOK HNO
  generalize o.legs.length = vn at *
  clear hv
  obtain ⟨ocl, osq, okd, oac, ope, osm, olg, opr, ohd, ont⟩ := o
  unfold Od.val Od.cs at *
  simp only at HDO HTC HST ⊢
  have HDX : Hid (∀ W, Fr No w W → Calls Tryz.prog 31 #[.pointer (some ⟨d.q.p, 0, none⟩), .agg #[.int .i64 ocl, .int .i64 osq, .int .i64 okd, .string oac, .string ope, .int .i64 osm, .slice vB vn vd, .int .i64 opr, .int .i64 ohd, .string ont]] W fun e w' => e = .returned (.agg #[.int .i64 re, .int .i64 rh, .int .i64 rs, .int .i64 rn]) ∧ BkS w' d.q b' ∧ Fr d.q.wr W w') := fun W h => HDO.out W h
  clear HDO
  have hbo := Blk.new w 31 #[.int .i64 ocl, .int .i64 osq, .int .i64 okd, .string oac, .string ope, .int .i64 osm, .slice vB vn vd, .int .i64 opr, .int .i64 ohd, .string ont]
  have hbr := Blk.new (w.alloc (.cells #[.int .i64 ocl, .int .i64 osq, .int .i64 okd, .string oac, .string ope, .int .i64 osm, .slice vB vn vd, .int .i64 opr, .int .i64 ohd, .string ont] 31)) 47 #[.int .i64 0, .int .i64 0, .int .i64 0, .int .i64 0]
  rw [World.size_alloc] at hbr
  have hbo := hbo.alloc (.cells #[.int .i64 0, .int .i64 0, .int .i64 0, .int .i64 0] 47)
  have hf2 : Fr No w ((w.alloc (.cells #[.int .i64 ocl, .int .i64 osq, .int .i64 okd, .string oac, .string ope, .int .i64 osm, .slice vB vn vd, .int .i64 opr, .int .i64 ohd, .string ont] 31)).alloc (.cells #[.int .i64 0, .int .i64 0, .int .i64 0, .int .i64 0] 47)) := ((Fr.refl _ _).alloc _).alloc _
  have HN := Lib.hid hN
  clear h ho hF hL hN
  go_enter Tryz.func16, Tryz.ntmps16
  go_upto_region 3 with (fail)
  have hw2s : ((w.alloc (.cells #[.int .i64 ocl, .int .i64 osq, .int .i64 okd, .string oac, .string ope, .int .i64 osm, .slice vB vn vd, .int .i64 opr, .int .i64 ohd, .string ont] 31)).alloc (.cells #[.int .i64 0, .int .i64 0, .int .i64 0, .int .i64 0] 47)).heap.size = w.heap.size + 2 := by simp
  generalize (w.alloc (.cells #[.int .i64 ocl, .int .i64 osq, .int .i64 okd, .string oac, .string ope, .int .i64 osm, .slice vB vn vd, .int .i64 opr, .int .i64 ohd, .string ont] 31)).alloc (.cells #[.int .i64 0, .int .i64 0, .int .i64 0, .int .i64 0] 47) = w2 at *
  have HW2 := Lib.hid hw2s
  have HF2 := Lib.hid hf2
  have HBO := Lib.hid hbo
  have HBR := Lib.hid hbr
  have hfarq : ∀ i, w.heap.size ≤ i → ¬ d.q.wr i := fun i hi e => by
    have := HLT.out i (.inr (.inl (Pl.wr_all e)))
    omega
  have HFQ := Lib.hid hfarq
  have HX : Hid (∀ W, Fr d.q.wr w2 W → Fr d.q.wr w2 W ∧ W.cell? ⟨d.p, 0, none⟩ = some (.pointer (some ⟨d.q.p, 0, none⟩)) ∧ W.cell? ⟨w.heap.size, 0, none⟩ = some (.int .i64 ocl) ∧ W.cell? ⟨w.heap.size, 1, none⟩ = some (.int .i64 osq) ∧ W.cell? ⟨w.heap.size, 2, none⟩ = some (.int .i64 okd) ∧ W.cell? ⟨w.heap.size, 3, none⟩ = some (.string oac) ∧ W.cell? ⟨w.heap.size, 4, none⟩ = some (.string ope) ∧ W.cell? ⟨w.heap.size, 5, none⟩ = some (.int .i64 osm) ∧ W.cell? ⟨w.heap.size, 6, none⟩ = some (.slice vB vn vd) ∧ W.cell? ⟨w.heap.size, 7, none⟩ = some (.int .i64 opr) ∧ W.cell? ⟨w.heap.size, 8, none⟩ = some (.int .i64 ohd) ∧ W.cell? ⟨w.heap.size, 9, none⟩ = some (.string ont)) := fun W hW => by
    have h1 := (HD.out.no hf2).blk.fr hW (fun e => HD.out.wr_p (.inl e))
    have h2 := hbo.fr hW (hfarq _ (Nat.le_refl _))
    exact ⟨hW, h1.cell 0, h2.cell 0, h2.cell 1, h2.cell 2, h2.cell 3, h2.cell 4, h2.cell 5, h2.cell 6, h2.cell 7, h2.cell 8, h2.cell 9⟩
  have hk0 : Fr d.q.wr w2 w2.drew := (Fr.refl _ w2).drew
  clear hf2 hbo hbr hfarq hw2s
  go_region_held3 (fun W => Fr d.q.wr w2 W ∧ W.cell? ⟨d.p, 0, none⟩ = some (.pointer (some ⟨d.q.p, 0, none⟩)) ∧ W.cell? ⟨w.heap.size, 0, none⟩ = some (.int .i64 ocl) ∧ W.cell? ⟨w.heap.size, 1, none⟩ = some (.int .i64 osq) ∧ W.cell? ⟨w.heap.size, 2, none⟩ = some (.int .i64 okd) ∧ W.cell? ⟨w.heap.size, 3, none⟩ = some (.string oac) ∧ W.cell? ⟨w.heap.size, 4, none⟩ = some (.string ope) ∧ W.cell? ⟨w.heap.size, 5, none⟩ = some (.int .i64 osm) ∧ W.cell? ⟨w.heap.size, 6, none⟩ = some (.slice vB vn vd) ∧ W.cell? ⟨w.heap.size, 7, none⟩ = some (.int .i64 opr) ∧ W.cell? ⟨w.heap.size, 8, none⟩ = some (.int .i64 ohd) ∧ W.cell? ⟨w.heap.size, 9, none⟩ = some (.string ont))
    (first
      | (with_reducible refine HX.out _ ?_; with_reducible assumption)
      | (with_reducible refine HX.out _ (keep_set4 (by with_reducible assumption) (by first | with_reducible assumption | omega)))
      | (with_reducible refine HX.out _ (Fr.alloc ?_ _); with_reducible assumption)
      | (with_reducible refine HX.out _ (Fr.drew (Fr.alloc ?_ _)); with_reducible first | assumption | exact Fr.refl _ w2))
    (first
      | (go_at_call 31; (with_reducible refine (HDX.out _ ((HF2.out.alloc _).drew)).mono ?_); rintro e u1 ⟨rfl, hb1, hg⟩; have ka1 : Fr d.q.wr w2 u1 := Fr.trans ((Fr.refl _ w2).alloc _).drew hg; have hz1 := Blk.fr (Blk.new w2 47 #[.int .i64 0, .int .i64 0, .int .i64 0, .int .i64 0]).drew hg (HFQ.out _ (by have := HW2.out; omega)); clear hg; have y0 := hz1.cell 0; have y1 := hz1.cell 1; have y2 := hz1.cell 2; have y3 := hz1.cell 3; have z0 := hz1.frozen 0; have z1 := hz1.frozen 1; have z2 := hz1.frozen 2; have z3 := hz1.frozen 3; simp only [List.getElem?_toArray, List.getElem?_cons_zero, List.getElem?_cons_succ] at y0 y1 y2 y3)
      | (go_at_call 31; (with_reducible refine (HDX.out _ HF2.out.drew).mono ?_); rintro e u1 ⟨rfl, hb1, hg⟩; have ka1 : Fr d.q.wr w2 u1 := Fr.trans (Fr.refl _ w2).drew hg; clear hg))
  focus
    have hx : Blk (u1.alloc (.cells #[.int .i64 re, .int .i64 rh, .int .i64 rs, .int .i64 rn] 47)) u1.heap.size 47 #[.int .i64 re, .int .i64 rh, .int .i64 rs, .int .i64 rn] := Blk.new u1 47 _
    have HQ : Hid (BkS (u1.alloc (.cells #[.int .i64 re, .int .i64 rh, .int .i64 rs, .int .i64 rn] 47)) d.q b' ∧ Fr d.q.wr w2 (u1.alloc (.cells #[.int .i64 re, .int .i64 rh, .int .i64 rs, .int .i64 rn] 47)) ∧ Blk (u1.alloc (.cells #[.int .i64 re, .int .i64 rh, .int .i64 rs, .int .i64 rn] 47)) u1.heap.size 47 #[.int .i64 re, .int .i64 rh, .int .i64 rs, .int .i64 rn] ∧ w2.heap.size ≤ u1.heap.size) := ⟨hb1.no ((Fr.refl _ _).alloc _), ka1.alloc _, hx, ka1.size⟩
    clear hx hb1 ka1 hk0
    generalize u1.alloc (.cells #[.int .i64 re, .int .i64 rh, .int .i64 rs, .int .i64 rn] 47) = qf at *
    generalize u1.heap.size = gb at *
  rotate_left
  focus
    have hx := blk_set4 hz1 (.int .i64 re) (.int .i64 rh) (.int .i64 rs) (.int .i64 rn)
    have hfx := fr_set4 u1 w2.heap.size (.int .i64 re) (.int .i64 rh) (.int .i64 rs) (.int .i64 rn)
    have HQ : Hid (BkS ((((u1.setCell ⟨w2.heap.size, 0, none⟩ (.int .i64 re)).setCell ⟨w2.heap.size, 1, none⟩ (.int .i64 rh)).setCell ⟨w2.heap.size, 2, none⟩ (.int .i64 rs)).setCell ⟨w2.heap.size, 3, none⟩ (.int .i64 rn)) d.q b' ∧ Fr d.q.wr w2 ((((u1.setCell ⟨w2.heap.size, 0, none⟩ (.int .i64 re)).setCell ⟨w2.heap.size, 1, none⟩ (.int .i64 rh)).setCell ⟨w2.heap.size, 2, none⟩ (.int .i64 rs)).setCell ⟨w2.heap.size, 3, none⟩ (.int .i64 rn)) ∧ Blk ((((u1.setCell ⟨w2.heap.size, 0, none⟩ (.int .i64 re)).setCell ⟨w2.heap.size, 1, none⟩ (.int .i64 rh)).setCell ⟨w2.heap.size, 2, none⟩ (.int .i64 rs)).setCell ⟨w2.heap.size, 3, none⟩ (.int .i64 rn)) w2.heap.size 47 #[.int .i64 re, .int .i64 rh, .int .i64 rs, .int .i64 rn] ∧ w2.heap.size ≤ w2.heap.size) := by
      refine ⟨hb1.fr hfx (fun i hi e => ?_), ka1.trans' hfx (fun i hi hlt => ?_), hx, Nat.le_refl _⟩
      · have h1 := HLT.out i (.inr (.inl hi))
        have h2 := HW2.out
        have : i = w2.heap.size := e
        omega
      · have : i = w2.heap.size := hi
        omega
    clear hx hfx hb1 ka1 hk0 hz1 y0 y1 y2 y3 z0 z1 z2 z3
    generalize ((((u1.setCell ⟨w2.heap.size, 0, none⟩ (.int .i64 re)).setCell ⟨w2.heap.size, 1, none⟩ (.int .i64 rh)).setCell ⟨w2.heap.size, 2, none⟩ (.int .i64 rs)).setCell ⟨w2.heap.size, 3, none⟩ (.int .i64 rn)) = qf at *
    obtain ⟨gb, hgb⟩ : ∃ gb, gb = w2.heap.size := ⟨_, rfl⟩
    have HQ : Hid (BkS qf d.q b' ∧ Fr d.q.wr w2 qf ∧ Blk qf gb 47 #[.int .i64 re, .int .i64 rh, .int .i64 rs, .int .i64 rn] ∧ w2.heap.size ≤ gb) := by rw [hgb]; exact HQ.out
    rw [← hgb]
    clear hgb
  all_goals
    have HBK := Lib.hid HQ.out.1
    have HFQf := Lib.hid HQ.out.2.1
    have HBG := Lib.hid HQ.out.2.2.1
    have HGL : Hid (w2.heap.size ≤ gb) := HQ.out.2.2.2
    have HBOq := Lib.hid (HBO.out.fr HFQf.out (HFQ.out _ (Nat.le_refl _)))
    have HBRq := Lib.hid (HBR.out.fr HFQf.out (HFQ.out _ (by omega)))
    have HDK := Lib.hid ((HD.out.no HF2.out).book HBK.out HFQf.out)
    have HFW : Hid (Fr d.q.wr w qf) := (HF2.out.mono fun _ _ h => False.elim h).trans HFQf.out
    clear HQ HX HBO HBR HDX
    have y0 := HBG.out.cell 0
    have y1 := HBG.out.cell 1
    have y2 := HBG.out.cell 2
    have y3 := HBG.out.cell 3
    have r0 := HBRq.out.cell 0
    have r1 := HBRq.out.cell 1
    have r2 := HBRq.out.cell 2
    have r3 := HBRq.out.cell 3
    have f0 := HBRq.out.frozen 0
    have f1 := HBRq.out.frozen 1
    have f2 := HBRq.out.frozen 2
    have f3 := HBRq.out.frozen 3
    simp only [List.getElem?_toArray, List.getElem?_cons_zero, List.getElem?_cons_succ] at y0 y1 y2 y3 r0 r1 r2 r3
    by_cases h0 : re = 0
    rotate_left
    · have hne : (re != 0) = true := by rw [bne_iff_ne]; exact h0
      have hd := blk_set4 HBRq.out (.int .i64 re) (.int .i64 rh) (.int .i64 rs) (.int .i64 rn)
      have hfx := fr_set4 qf (w.heap.size + 1) (.int .i64 re) (.int .i64 rh) (.int .i64 rs) (.int .i64 rn)
      have HFIN := Lib.hid (HDONE.out f _ re rh rs rn rfl ((HDK.out.fr hfx (fun i hi e => by
        have h1 := HLT.out i hi
        have : i = w.heap.size + 1 := e
        omega)).same (N' := N + 12) (by omega) (fun nm => by rw [HNO.out h0 nm, List.append_nil])) ((HFW.out.mono fun _ _ h => .inl h).trans' hfx (fun i hi hlt => by
        have : i = w.heap.size + 1 := hi
        omega)) (fun i hi => .inl hi))
      have HDD := Lib.hid hd
      clear hd hfx
      go_wp2
      have hd := HDD.out
      have d0 := hd.cell 0
      have d1 := hd.cell 1
      have d2 := hd.cell 2
      have d3 := hd.cell 3
      simp only [List.getElem?_toArray, List.getElem?_cons_zero, List.getElem?_cons_succ] at d0 d1 d2 d3
      refine bodyPost_ret (v := .agg #[.int .i64 re, .int .i64 rh, .int .i64 rs, .int .i64 rn]) (by simp [results, Tryz.results16, go_sem, d0, d1, d2, d3]) rfl ?_
      exact HFIN.out
    · subst h0
      have HOK2 := Lib.hid (HOK.out rfl)
      have o0 := HBOq.out.cell 0
      have o1 := HBOq.out.cell 1
      have o2 := HBOq.out.cell 2
      have o3 := HBOq.out.cell 3
      have o4 := HBOq.out.cell 4
      have o5 := HBOq.out.cell 5
      have o6 := HBOq.out.cell 6
      have o7 := HBOq.out.cell 7
      have o8 := HBOq.out.cell 8
      have o9 := HBOq.out.cell 9
      simp only [List.getElem?_toArray, List.getElem?_cons_zero, List.getElem?_cons_succ] at o0 o1 o2 o3 o4 o5 o6 o7 o8 o9
      clear HOK HNO
      go_wp2_with fail
      (with_reducible refine (HTC.out _ HFW.out).mono ?_)
      rintro e w6 ⟨v6, rfl, ho6, hf6', hn6⟩
      obtain ⟨A6, c6, rfl, -, -⟩ := ho6.form
      have hf6 := fr_at_none hf6'
      have p0 := (HDK.out.no hf6).blk.cell 0
      simp only [List.getElem?_toArray, List.getElem?_cons_zero, List.getElem?_cons_succ] at p0
      have HF6 := Lib.hid hf6
      have HO6 := Lib.hid ho6
      clear ho6 hf6' hn6 hf6 o0 o1 o2 o3 o4 o5 o6 o7 o8 o9 HTC
      go_wp2_with fail
      (with_reducible refine (baccts_any d.q b' _ (HBK.out.no HF6.out)).mono ?_)
      rintro e w7 ⟨v7, rfl, ho7, hf7', hn7⟩
      obtain ⟨A7, c7, rfl, -, -⟩ := ho7.form
      have hf7 := fr_at_none hf7'
      have HF7 : Hid (Fr No qf w7) := HF6.out.trans hf7
      have HO7 := Lib.hid ho7
      have HT7 := Lib.hid (HO6.out.fr hf7 (fun _ _ h => h))
      have HEV7 : Hid (EvS w7 d.m c0 f E) := by
        have h1 := hev.noF HF2.out
        have h2 := h1.fr HFQf.out (fun i hi e => HQE.out i (Pl.wr_all e) hi)
        exact h2.noF HF7.out
      have HBO7 := Lib.hid (HBOq.out.fr HF7.out (fun h => h))
      have HBR7 := Lib.hid (HBRq.out.fr HF7.out (fun h => h))
      have HBG7 := Lib.hid (HBG.out.fr HF7.out (fun h => h))
      have HDK7 := Lib.hid (HDK.out.no HF7.out)
      have HFW7 : Hid (Fr d.q.wr w w7) := HFW.out.trans (HF7.out.mono fun _ _ h => False.elim h)
      have hn7l := HSL.out
      clear ho7 hf7' hf7 hn7 HO6 HF6 HBK HFQf HBG HBOq HBRq HDK HFW HF7 p0 y0 y1 y2 y3 r0 r1 r2 r3 f0 f1 f2 f3
      go_wp2
      go_loopw [30] (fun iv wr => DoRel w7 d.m f N E b'.S.length SE iv wr) (fun iv _ => b'.S.length - (intOf iv).toNat)
      case atStart => exact ⟨0, f, c0, Nat.zero_le _, rfl, by omega, HEV7.out.congr (fun nm => by rw [HS0.out nm, List.append_nil]), Fr.refl _ _, fun i hi => .inl hi⟩
      case round =>
        obtain ⟨j, f', c, hj, rfl, hc, hevj, hfr, hsub⟩ := hrel
        by_cases hlt : j < b'.S.length
        · obtain ⟨ad, rfl, _, p0, p1, p2, p3⟩ := acs_at ((HO7.out.fr hfr (HEV7.out.farO HO7.out (by decide))).rd) j hlt
          have htr := (HT7.out.fr hfr (HEV7.out.farO HT7.out (by decide))).rd
          have hdk := HDK7.out.blk.fr hfr (HEV7.out.far HDK7.out.blk (by decide))
          have hbo := HBO7.out.fr hfr (HEV7.out.far HBO7.out (by decide))
          have hst := HST.out j hlt
          have hnm := HNS.out j hlt
          have hse := HSE.out j
          generalize b'.S[j] = a at *
          obtain ⟨an, ah, as_, al⟩ := a
          simp only at p0 p1 p2 p3 hst hnm
          have hbx := Blk.new wr 63 #[.string ⟨an.toArray⟩, .int .i64 ah, .int .i64 as_, .int .i64 al]
          have hevl := hevj.noF ((Fr.refl No wr).alloc (.cells #[.string ⟨an.toArray⟩, .int .i64 ah, .int .i64 as_, .int .i64 al] 63))
          have hdl := hdk.alloc (.cells #[.string ⟨an.toArray⟩, .int .i64 ah, .int .i64 as_, .int .i64 al] 63)
          have hol := hbo.alloc (.cells #[.string ⟨an.toArray⟩, .int .i64 ah, .int .i64 as_, .int .i64 al] 63)
          have htl := htr.fr (by decide : 0 < 1) ((Fr.refl No wr).alloc (.cells #[.string ⟨an.toArray⟩, .int .i64 ah, .int .i64 as_, .int .i64 al] 63)) (fun _ _ _ h => h)
          have HCT := Lib.hid (containsT_any _ A6 c6 T an _ htl HTL.out)
          have hfl : Fr (evB d.m f) w7 (wr.alloc (.cells #[.string ⟨an.toArray⟩, .int .i64 ah, .int .i64 as_, .int .i64 al] 63)) := hfr.alloc _
          have HBX := Lib.hid hbx
          have HEVL := Lib.hid hevl
          have HDL := Lib.hid hdl
          have HOL := Lib.hid hol
          have HFL := Lib.hid hfl
          have HSUB := Lib.hid hsub
          have HC := Lib.hid hc
          have x0 := hbx.cell 0
          simp only [List.getElem?_toArray, List.getElem?_cons_zero, List.getElem?_cons_succ] at x0
          clear hbx hevl hdl hol hfl hsub hdk hbo htr htl hevj hfr hc
          by_cases hmem : an ∈ T
          · have HST2 := Lib.hid (hst.1 hmem)
            rw [decide_eq_true hmem] at HCT
            clear hst hmem
            go_wp2_with fail
            refine HCT.out.mono ?_
            rintro e wl ⟨rfl, rfl⟩
            clear HCT x0
            go_upto_region 11 with (fail)
            have hnE : (E an ++ SE j an).length ≤ 1000000 := by
              rw [List.length_append]
              have h1 := hE an
              have h2 := hse an
              omega
            have hcm : c < maxLen := by have h1 := HC.out; have h2 := HN.out; have h3 := HSL.out; unfold maxLen; omega
            refine doev_region HDL.out HBX.out HOL.out (by decide) rfl rfl rfl HEVL.out hcm hnm hnE ?_
            rintro wl38 wl39 wl40 wl41 wl42 wl43 wl44 wl45 wl46 wl47 wl48 wl49 wl50 wl51 wl52 wl53 wl54 wl55 wl56 wl57 wl58 wl59 wl60 wl61 w4 ⟨f4, c4, hev4, hc4, hf4, hs4⟩
            have HEV4 := Lib.hid hev4
            have HF4 := Lib.hid hf4
            have HS4 := Lib.hid hs4
            clear hev4 hf4 hs4
            go_wp2
            go_roundw
            case rel =>
              refine ⟨j + 1, f4, c4, by omega, by go_num, by have h1 := HC.out; omega, HEV4.out.congr HST2.out, HFL.out.trans' HF4.out (fun i hi hlt => ?_), fun i hi => ?_⟩
              · rcases HSUB.out i hi with h1 | h1
                · exact h1
                · omega
              · rcases HS4.out i hi with h1 | h1
                · exact HSUB.out i h1
                · exact .inr (Nat.le_trans HFL.out.size h1)
            case measure => simp [intOf]; omega
          · have HST2 := Lib.hid (hst.2 hmem)
            rw [decide_eq_false hmem] at HCT
            clear hst hmem
            go_wp2_with fail
            refine HCT.out.mono ?_
            rintro e wl ⟨rfl, rfl⟩
            clear HCT x0
            go_wp2
            go_roundw
            case rel => exact ⟨j + 1, f', c, by omega, by go_num, by have := HC.out; omega, HEVL.out.congr HST2.out, HFL.out, HSUB.out⟩
            case measure => simp [intOf]; omega
        · obtain rfl : j = b'.S.length := by omega
          have hbr := HBR7.out.fr hfr (HEV7.out.far HBR7.out (by decide))
          have hbg := HBG7.out.fr hfr (HEV7.out.far HBG7.out (by decide))
          have y0 := hbg.cell 0
          have y1 := hbg.cell 1
          have y2 := hbg.cell 2
          have y3 := hbg.cell 3
          have r0 := hbr.cell 0
          have r1 := hbr.cell 1
          have r2 := hbr.cell 2
          have r3 := hbr.cell 3
          have f0 := hbr.frozen 0
          have f1 := hbr.frozen 1
          have f2 := hbr.frozen 2
          have f3 := hbr.frozen 3
          simp only [List.getElem?_toArray, List.getElem?_cons_zero, List.getElem?_cons_succ] at y0 y1 y2 y3 r0 r1 r2 r3
          have hd := blk_set4 hbr (.int .i64 0) (.int .i64 rh) (.int .i64 rs) (.int .i64 rn)
          have hfx := fr_set4 wr (w.heap.size + 1) (.int .i64 0) (.int .i64 rh) (.int .i64 rs) (.int .i64 rn)
          have hfwr : Fr (d.wr f) w wr := (HFW7.out.mono fun _ _ h => .inl h).trans (hfr.mono fun _ _ h => .inr h)
          have hs7 := HFW7.out.size
          have hlw : w.heap.size + 1 < wr.heap.size := hbr.lt
          have hdkr := HDK7.out.evs (N' := N + 12) hevj (by omega) hfr (fun nm => by rw [List.length_append]; omega)
          have hnew : ∀ i, evB d.m f' i → evB d.m f i ∨ w.heap.size + 2 ≤ i := fun i hi => by
            rcases hsub i hi with h1 | h1
            · exact .inl h1
            · have h2 := HBR7.out.lt
              exact .inr (by omega)
          have HFIN := Lib.hid (HDONE.out f' _ 0 rh rs rn rfl ((hdkr.fr hfx (fun i hi e => by
            have e : i = w.heap.size + 1 := e
            rcases hi with h1 | h1 | h1 | h1
            · have := HLT.out i (.inl h1); omega
            · have := HLT.out i (.inr (.inl h1)); omega
            · rcases hnew i h1 with h2 | h2
              · have := HLT.out i (.inr (.inr (.inl h2))); omega
              · omega
            · have := HLT.out i (.inr (.inr (.inr h1))); omega)).same (N' := N + 12) (Nat.le_refl _) (fun nm => by rw [HOK2.out nm])) (hfwr.trans' hfx (fun i hi hlt => by
            have : i = w.heap.size + 1 := hi
            omega)) (fun i hi => by
            rcases hnew i hi with h2 | h2
            · exact .inl h2
            · exact .inr (by omega)))
          have HDD := Lib.hid hd
          clear hd hfx hfwr hdkr hnew hevj hfr hsub hbr hbg
          go_wp2
          have hd := HDD.out
          have d0 := hd.cell 0
          have d1 := hd.cell 1
          have d2 := hd.cell 2
          have d3 := hd.cell 3
          simp only [List.getElem?_toArray, List.getElem?_cons_zero, List.getElem?_cons_succ] at d0 d1 d2 d3
          refine bodyPost_ret (v := .agg #[.int .i64 0, .int .i64 rh, .int .i64 rs, .int .i64 rn]) (by simp [results, Tryz.results16, go_sem, d0, d1, d2, d3]) rfl ?_
          exact HFIN.out
end
end Go.Proofs.YtlanhclgbkhdlaaGreat

namespace Go.Proofs.YtlanhclgbkhdlaaGreat
open Go.RowKit Go.My Go.Maps
set_option linter.unusedSimpArgs false
set_option linter.unusedVariables false
attribute [local go_sem ↓] Go.wp_at_zero Go.wp_at_succ

theorem Dp.new {w w1 : World} {d : Dp} {f f' : List UInt8 → Option Value} (h : ∀ i, d.all f i → w.heap.size ≤ i) (hs : w.heap.size ≤ w1.heap.size) (h2 : ∀ i, evB d.m f' i → evB d.m f i ∨ w1.heap.size ≤ i) : ∀ i, d.all f' i → w.heap.size ≤ i := fun i hi => by
  rcases hi with e | e | e | e
  · exact h i (.inl e)
  · exact h i (.inr (.inl e))
  · rcases h2 i e with h3 | h3
    · exact h i (.inr (.inr (.inl h3)))
    · omega
  · exact h i (.inr (.inr (.inr e)))
/-- a desk that has done the first k of some orders -/
def EsRel (w : World) (d : Dp) (l : List Od) (iv : Value) (wr : World) : Prop :=
  ∃ (j : Nat) (f : List UInt8 → Option Value), j ≤ l.length ∧ iv = .int .i64 j ∧ DkS wr d f (12 * j) (foldB bk0 (l.take j)) (evsL bk0 (l.take j)) 0 noRd ∧ Fr No w wr ∧ ∀ i, d.all f i → w.heap.size ≤ i
theorem evs_take_next (b : Bk) (l : List Od) (k : Nat) (hk : k < l.length) (nm : List UInt8) : evsL b (l.take (k + 1)) nm = evsL b (l.take k) nm ++ newEv (foldB b (l.take k)) l[k] nm := by
  rw [List.take_succ_eq_append_getElem hk]
  exact evsL_snoc _ _ _ _
theorem fold_take_next (b : Bk) (l : List Od) (k : Nat) (hk : k < l.length) : foldB b (l.take (k + 1)) = doB (foldB b (l.take k)) l[k] := by
  rw [List.take_succ_eq_append_getElem hk]
  exact foldB_append _ _ _
theorem ods_legs {w0 w : World} {F : Nat → Prop} {A : Option Addr} {l : List Od} (h : OdsS w0 w F A l) (hb : ∀ o ∈ l, o.legs.length ≤ 100000) (k : Nat) (hk : k < l.length) : l[k].legs.length ≤ 100000 := hb _ (List.getElem_mem hk)
set_option maxRecDepth 100000 in
set_option maxHeartbeats 4000000 in
theorem sevents_any (w0 w : World) (F : Nat → Prop) (A : Option Addr) (c : Nat) (l : List Od) (s : ByteArray) (hl : OdsS w0 w F A l) (hb0 : Below w0.heap.size w0 w) (hlc : l.length ≤ 1000) (hlg : ∀ o ∈ l, o.legs.length ≤ 100000) (hs : s.size ≤ maxLen) :
    Calls Tryz.prog 13 #[.slice A l.length c, .string s] w (RetOwn w 65 5 none (evsL bk0 l s.data.toList).length (evs (evsL bk0 l s.data.toList))) := by
  have HL : Hid (OdsS w0 w (Lt w.heap.size) A l) := by
    obtain ⟨cells, hr, hE⟩ := hl
    exact ⟨cells, rd_lt hr (by omega), hE⟩
  have HB0 := Lib.hid hb0
  have HNEW := Lib.hid (dnew_any w)
  have HLG := Lib.hid hlg
  have HS := Lib.hid hs
  have hlm : l.length ≤ 1000 := hlc
  clear hl hb0 hlc hlg hs
  go_enter Tryz.func13, Tryz.ntmps13
  go_wp2_with fail
  (with_reducible refine HNEW.out.mono ?_)
  rintro e w1 ⟨d, rfl, hd1, hf1, hn1⟩
  have HF1 := Lib.hid hf1
  have HN1 := Lib.hid hn1
  have HD1 := Lib.hid hd1
  clear hf1 hn1 hd1 HNEW
  go_wp2
  go_loopw [11] (fun iv wr => EsRel w d l iv wr) (fun iv _ => l.length - (intOf iv).toNat)
  case atStart => exact ⟨0, noF, Nat.zero_le _, rfl, HD1.out, HF1.out, HN1.out⟩
  case round =>
    obtain ⟨j, f, hj, rfl, hdk, hfr, hnew⟩ := hrel
    by_cases hlt : j < l.length
    · obtain ⟨ad, v, rfl, _, hok, hg, hL, q0, q1, q2, q3, q4, q5, q6, q7, q8, q9⟩ := (HL.out.below hfr.belowNo (fun _ h => h)).at_ j hlt
      obtain ⟨B, dd, rfl, hd1, hd2⟩ := hL.form
      have hW : ∀ W, Fr No wr W → Below w0.heap.size w0 W := fun W h => (HB0.out.trans (hfr.belowNo.mono HB0.out.size)).trans (h.belowNo.mono (by have := hfr.size; have := HB0.out.size; omega))
      have HDO : Hid (∀ W, Fr No wr W → Calls Tryz.prog 16 #[.pointer (some ⟨d.p, 0, none⟩), l[j].val (.slice B l[j].legs.length dd)] W (DoneS d f (12 * j) (foldB bk0 (l.take j)) (evsL bk0 (l.take j)) 0 noRd l[j] W)) := fun W h =>
        ddo_any (Lt w0.heap.size) l[j] _ W (hdk.no h) hok (hL.below (hW W h)) (fun i hi => by
          have hi : i < w0.heap.size := hi
          have h1 := (hW W h).size
          have h2 := HB0.out.size
          exact ⟨by omega, fun e => by have := hnew i (.inr (.inl e)); omega⟩) (HLG.out _ (List.getElem_mem hlt)) (by omega) (fun nm => by
          have := evsL_len bk0 (l.take j) nm
          rw [List.length_take] at this
          omega)
      have HE1 : Hid (∀ nm, evsL bk0 (l.take j) nm ++ newEv (foldB bk0 (l.take j)) l[j] nm = evsL bk0 (l.take (j + 1)) nm) := fun nm => (evs_take_next bk0 l j hlt nm).symm
      have HE2 : Hid (doB (foldB bk0 (l.take j)) l[j] = foldB bk0 (l.take (j + 1))) := (fold_take_next bk0 l j hlt).symm
      have HNX : Hid (∀ W e w', Fr No wr W → DoneS d f (12 * j) (foldB bk0 (l.take j)) (evsL bk0 (l.take j)) 0 noRd l[j] W e w' → (∃ v, e = .returned v) ∧ EsRel w d l (.int .i64 ((j + 1 : Nat) : Int)) w') := fun W e w' hW ⟨f', he, hdk', hf', hb'⟩ => by
        refine ⟨⟨_, he⟩, j + 1, f', hlt, rfl, ?_, (hfr.trans hW).trans' hf' (fun i hi hlt2 => ?_), ?_⟩
        · rw [← HE2.out]
          exact hdk'.same (by omega) HE1.out
        · have := hnew i (Dp.wr_all hi)
          omega
        · exact Dp.new hnew (Nat.le_trans hfr.size hW.size) hb'
      have HFR := Lib.hid hfr
      clear hdk hnew hok hg hL hfr hW HE1 HE2
      generalize foldB bk0 (l.take j) = bj at *
      generalize evsL bk0 (l.take j) = Ej at *
      have HDX : Hid (∀ W, Fr No wr W → Calls Tryz.prog 16 #[.pointer (some ⟨d.p, 0, none⟩), .agg #[.int .i64 l[j].cl, .int .i64 l[j].sq, .int .i64 l[j].kd, .string l[j].acct, .string l[j].peer, .int .i64 l[j].sum, .slice B l[j].legs.length dd, .int .i64 l[j].per, .int .i64 l[j].hold, .string l[j].note]] W fun e w' => (∃ v, e = .returned v) ∧ EsRel w d l (.int .i64 ((j + 1 : Nat) : Int)) w') := fun W h => (HDO.out W h).mono fun e w' hx => HNX.out W e w' h hx
      clear HDO HNX
      generalize l[j].legs.length = Ln at *
      generalize l[j].cl = cl at *
      generalize l[j].sq = sq at *
      generalize l[j].kd = kd at *
      generalize l[j].acct = acct at *
      generalize l[j].peer = peer at *
      generalize l[j].sum = sum at *
      generalize l[j].per = per at *
      generalize l[j].hold = hold at *
      generalize l[j].note = note at *
      go_wp2_with fail
      (with_reducible refine (HDX.out _ ((Fr.refl _ wr).alloc _)).mono ?_)
      rintro e w5 ⟨⟨rv, rfl⟩, hrel5⟩
      have HR5 := Lib.hid hrel5
      clear hrel5 q0 q1 q2 q3 q4 q5 q6 q7 q8 q9
      go_wp2
      go_roundw
      case rel =>
        have := HR5.out
        have e1 : ((j + 1 : Nat) : Int) = (j : Int) + 1 := by omega
        rw [e1] at this
        exact this
      case measure => simp [intOf]; omega
    · obtain rfl : j = l.length := by omega
      rw [List.take_length] at hdk
      have HOF := Lib.hid (dof_any s wr hdk HS.out (by have := evsL_len bk0 l s.data.toList; omega))
      have HFR := Lib.hid hfr
      clear hdk hnew hfr
      go_wp2_with fail
      (with_reducible refine HOF.out.mono ?_)
      rintro e w5 ⟨v, rfl, ho, hf, hn⟩
      have HO := Lib.hid ho
      have HF : Hid (Fr (AtO none) w w5) := (HFR.out.trans (fr_at_none hf)).mono fun _ _ h => False.elim h
      have HN : Hid (Newer w.heap.size none v.ownBlock) := by
        rcases hn with h | ⟨k, h1, h2⟩
        · exact .inl h
        · exact .inr ⟨k, h1, Nat.le_trans HFR.out.size h2⟩
      clear ho hf hn HOF
      go_wp2
      go_ret
      exact ⟨v, rfl, HO.out, HF.out, HN.out⟩
end Go.Proofs.YtlanhclgbkhdlaaGreat

namespace Go.Proofs.YtlanhclgbkhdlaaGreat
open Go.RowKit Go.My Go.Maps Go.WideMaps
set_option linter.unusedSimpArgs false
set_option linter.unusedVariables false
attribute [local go_sem ↓] Go.wp_at_zero Go.wp_at_succ

def Od.few8 (o : Od) : Od := { o with legs := o.legs.take 8 }
def fewO (l : List Od) (n : Nat) : List Od := (l.take n).map Od.few8
theorem fewO_length (l : List Od) (n : Nat) : (fewO l n).length = min n l.length := by unfold fewO; rw [List.length_map, List.length_take]
theorem fewO_succ (l : List Od) (k : Nat) (hk : k < l.length) : fewO l (k + 1) = fewO l k ++ [l[k].few8] := by unfold fewO; rw [List.take_succ_eq_append_getElem hk, List.map_append]; rfl
/-- a row of the call's own that holds orders -/
def OwnO (w0 w : World) (v : Value) (l : List Od) : Prop := ∃ cells, Own w 31 10 v l.length cells ∧ Each (OdR w0) 10 cells l
theorem OwnO.nil (w0 w : World) : OwnO w0 w (.slice none 0 0) [] := ⟨[], Own.nil _ _ _, Each.nilO w0⟩
theorem OwnO.ods {w0 w : World} {A : Option Addr} {m c : Nat} {l : List Od} (h : OwnO w0 w (.slice A m c) l) : OdsS w0 w (fun k => (Value.slice A m c).ownBlock = some k) A l := by
  obtain ⟨cells, ho, hE⟩ := h
  exact ⟨cells, ho.rd, hE⟩
theorem OwnO.form {w0 w : World} {v : Value} {l : List Od} (h : OwnO w0 w v l) : ∃ A c, v = .slice A l.length c ∧ l.length ≤ c ∧ c ≤ maxLen := by
  obtain ⟨cells, ho, _⟩ := h
  exact ho.form
/-- what few hands back -/
theorem OwnO.ret {w0 w w' : World} {A : Option Addr} {c : Nat} {l : List Od} (h : OwnO w0 w' (.slice A l.length c) l) (hf : Fr No w w') (hn : Newer w.heap.size none (Value.slice A l.length c).ownBlock) : OdsS w0 w' (fun k => w.heap.size ≤ k) A l :=
  h.ods.more fun k hk => newer_none hn k hk
def FeRel (w0 w : World) (l : List Od) (n : Nat) (lv iv : Value) (wr : World) : Prop :=
  ∃ k : Nat, k ≤ l.length ∧ k ≤ n ∧ iv = .int .i64 k ∧ OwnO w0 wr lv (fewO l k) ∧ Fr No w wr ∧ Newer w.heap.size none lv.ownBlock
def FewRet (w0 w : World) (l : List Od) (e : Ending) (w' : World) : Prop := ∃ A c, e = .returned (.slice A l.length c) ∧ OdsS w0 w' (fun k => w.heap.size ≤ k) A l ∧ l.length ≤ c ∧ c ≤ maxLen ∧ Fr No w w'
set_option maxRecDepth 100000 in
set_option maxHeartbeats 4000000 in
theorem few10_any (w0 w : World) (F : Nat → Prop) (A : Option Addr) (c : Nat) (l : List Od) (n : Nat) (hl : OdsS w0 w F A l) (hlc : l.length ≤ c) (hcm : c ≤ maxLen) (hn : n ≤ 1000) :
    Calls Tryz.prog 8 #[.slice A l.length c, .int .i64 (n : Int)] w (FewRet w0 w (fewO l n)) := by
  have HL := Lib.hid hl
  have HCM := Lib.hid hcm
  have hlm : l.length ≤ 9223372036854775807 := by unfold maxLen at hcm; omega
  clear hl hcm
  go_enter Tryz.func8, Tryz.ntmps8
  go_wp2
  go_loopw [5, 6] (fun lv iv wr => FeRel w0 w l n lv iv wr) (fun _ iv _ => l.length - (intOf iv).toNat)
  case atStart => exact ⟨0, Nat.zero_le _, Nat.zero_le _, rfl, OwnO.nil _ _, Fr.refl _ _, .inl rfl⟩
  case round =>
    obtain ⟨k, hk, hkl, rfl, hown, hfr, hnew⟩ := hrel
    have hk62 : (k : Int) ≤ 9223372036854775807 := by omega
    by_cases hlt : k < l.length
    · by_cases hkn : k < n
      · obtain ⟨ad, v, rfl, _, hok, hg, hL, q0, q1, q2, q3, q4, q5, q6, q7, q8, q9⟩ := (HL.out.fr hfr (fun _ _ _ h => h)).at_ k hlt
        obtain ⟨B, d, rfl, hd1, hd2⟩ := hL.form
        have E : Hid (fewO l (k + 1) = fewO l k ++ [l[k].few8]) := fewO_succ l k hlt
        have HO : Hid (OdR w0 (l[k].few8.cs (.slice B (min l[k].legs.length 8) d)) l[k].few8) := ⟨_, rfl, hok, fun g h => hg g (List.mem_of_mem_take h), hL.take 8⟩
        have hlk : (fewO l k).length = k := by rw [fewO_length]; omega
        obtain ⟨cells, ho, hE⟩ := hown
        have HE := Lib.hid hE
        have hX : Hid ((fewO l k).length + 1 ≤ maxLen ∧ ((fewO l k).length + 1) * 120 ≤ 140737488355328) := by
          rw [hlk]
          refine ⟨?_, ?_⟩ <;> (try simp only [maxLen]) <;> omega
        have HLK := Lib.hid hlk
        have hcs : Hid (l[k].few8.cs (.slice B (min l[k].legs.length 8) d) = [.int .i64 l[k].cl, .int .i64 l[k].sq, .int .i64 l[k].kd, .string l[k].acct, .string l[k].peer, .int .i64 l[k].sum, .slice B (min l[k].legs.length 8) d, .int .i64 l[k].per, .int .i64 l[k].hold, .string l[k].note]) := rfl
        generalize l[k].few8.cs (.slice B (min l[k].legs.length 8) d) = CS at *
        generalize l[k].few8 = of_ at *
        clear hok hg hL hE hlk hk62 hk
        generalize l[k].legs = L at *
        generalize l[k].cl = cl at *
        generalize l[k].sq = sq at *
        generalize l[k].kd = kd at *
        generalize l[k].acct = acct at *
        generalize l[k].peer = peer at *
        generalize l[k].sum = sum at *
        generalize l[k].per = per at *
        generalize l[k].hold = hold at *
        generalize l[k].note = note at *
        have hmn : (min (L.length : Int) 8).toNat = min L.length 8 := by omega
        have hmx : 0 ≤ min (L.length : Int) 8 ∧ min (L.length : Int) 8 ≤ (d : Int) := ⟨by omega, by omega⟩
        have hkni : (k : Int) < (n : Int) := by omega
        go_wp2_with (at_builtin; refine wpList_app _ rfl (.tmp 31) (.tmp 33) 22 22 rfl elO ((ho.alloc _).alloc _) rfl (Src.of_new (cs := #[.int .i64 cl, .int .i64 sq, .int .i64 kd, .string acct, .string peer, .int .i64 sum, .slice B (min L.length 8) d, .int .i64 per, .int .i64 hold, .string note]) (t := 31) (wr.heap.size + 1) (by have h := heap_alloc_new (wr.alloc (.cells #[.int .i64 cl, .int .i64 sq, .int .i64 kd, .string acct, .string peer, .int .i64 sum, .slice B (min L.length 8) d, .int .i64 per, .int .i64 hold, .string note] 31)) (.cells #[.int .i64 cl, .int .i64 sq, .int .i64 kd, .string acct, .string peer, .int .i64 sum, .slice B (min L.length 8) d, .int .i64 per, .int .i64 hold, .string note] 31); rw [World.size_alloc] at h; exact h) Tryz.underlying22 rfl (by simp [Value.oneCell'])) rfl hX.out.1 hX.out.2 ?_; intro v1 w3 hown3 hfr3 hnew3)
        go_roundw
        case rel =>
          refine ⟨k + 1, by omega, by omega, by go_num, ?_, ?_, ?_⟩
          · rw [E.out]
            have hq := hcs.out
            subst hq
            exact ⟨_, by rw [List.length_append]; exact hown3, Each.snocO HE.out rfl HO.out⟩
          · exact fr_no ((hfr.alloc _).alloc _) hnew hfr3
          · exact hnew.trans (Newer.of hnew3) (by have := hfr.size; simp; omega)
        case measure => simp [intOf]; omega
      · have hkni : ¬ (k : Int) < (n : Int) := by omega
        have hkn' : k = n := by omega
        subst hkn'
        obtain ⟨A1, c1, rfl, hl1, hm1⟩ := OwnO.form hown
        have HR := Lib.hid (OwnO.ret hown hfr hnew)
        have HFR := Lib.hid hfr
        clear hown hfr hnew
        go_wp2
        go_ret
        exact ⟨_, _, rfl, HR.out, hl1, hm1, HFR.out⟩
    · obtain rfl : k = l.length := by omega
      have he : fewO l l.length = fewO l n := by
        unfold fewO
        rw [List.take_length, List.take_of_length_le hkl]
      rw [he] at hown
      obtain ⟨A1, c1, rfl, hl1, hm1⟩ := OwnO.form hown
      have HR := Lib.hid (OwnO.ret hown hfr hnew)
      have HFR := Lib.hid hfr
      clear hown hfr hnew he
      by_cases hkn : l.length < n
      · have hkni : (l.length : Int) < (n : Int) := by omega
        go_wp2
        go_ret
        exact ⟨_, _, rfl, HR.out, hl1, hm1, HFR.out⟩
      · have hkni : ¬ (l.length : Int) < (n : Int) := by omega
        go_wp2
        go_ret
        exact ⟨_, _, rfl, HR.out, hl1, hm1, HFR.out⟩
end Go.Proofs.YtlanhclgbkhdlaaGreat

namespace Go.Proofs.YtlanhclgbkhdlaaGreat
open Go.RowKit Go.My Go.Maps
set_option linter.unusedSimpArgs false
set_option linter.unusedVariables false
attribute [local go_sem ↓] Go.wp_at_zero Go.wp_at_succ

theorem elE12 : El Tryz.prog 37 73 5 40 := ⟨Tryz.underlying37, by
  have h : (Tryz.prog.info? 73).map (fun i => (i.zero, i.size, i.bytes)) = some (some (.agg #[.int .i64 0, .int .i64 0, .int .i64 0, .int .i64 0, .int .i64 0]), 5, 40) := by kernel_rfl
  obtain ⟨i, hi, hz, hs, hb⟩ := info_parts h
  exact ⟨i, _, hi, hz, hs, hb, rfl⟩, by omega⟩
def AsRel (w : World) (l : List Ev) (lv iv : Value) (wr : World) : Prop :=
  ∃ k : Nat, k ≤ l.length ∧ iv = .int .i64 k ∧ Own wr 73 5 lv k (evs (l.take k)) ∧ Fr No w wr ∧ Newer w.heap.size none lv.ownBlock
set_option maxRecDepth 100000 in
set_option maxHeartbeats 2000000 in
theorem as12_any (F : Nat → Prop) (A : Option Addr) (c : Nat) (l : List Ev) (w : World) (hr : Rd w F 5 A l.length (evs l)) (hl : l.length ≤ 1000000) :
    Calls Tryz.prog 12 #[.slice A l.length c] w (RetOwn w 73 5 none l.length (evs l)) := by
  have HR := Lib.hid hr
  clear hr
  go_enter Tryz.func12, Tryz.ntmps12
  go_wp2
  go_loopw [3, 4] (fun lv iv wr => AsRel w l lv iv wr) (fun _ iv _ => l.length - (intOf iv).toNat)
  case atStart => exact ⟨0, Nat.zero_le _, rfl, Own.nil _ _ _, Fr.refl _ _, .inl rfl⟩
  case round =>
    obtain ⟨k, hk, rfl, hown, hfr, hnew⟩ := hrel
    have hk62 : (k : Int) ≤ 1000000 := by omega
    by_cases hlt : k < l.length
    · obtain ⟨ad, rfl, hF, p0, p1, p2, p3, p4⟩ := ev_at HR.out k hlt
      have hX : ∀ W, Fr No w W → Fr No w W ∧ W.cell? (ad.add (k * 5)) = some (.int .i64 l[k].cl) ∧ W.cell? ⟨(ad.add (k * 5)).block, (ad.add (k * 5)).off + 1, none⟩ = some (.int .i64 l[k].sq) ∧ W.cell? ⟨(ad.add (k * 5)).block, (ad.add (k * 5)).off + 2, none⟩ = some (.int .i64 l[k].kd) ∧ W.cell? ⟨(ad.add (k * 5)).block, (ad.add (k * 5)).off + 3, none⟩ = some (.int .i64 l[k].hv) ∧ W.cell? ⟨(ad.add (k * 5)).block, (ad.add (k * 5)).off + 4, none⟩ = some (.int .i64 l[k].st) := fun W hW =>
        ⟨hW, hW.cell_some p0 (fun h => h), hW.cell_some p1 (fun h => h), hW.cell_some p2 (fun h => h), hW.cell_some p3 (fun h => h), hW.cell_some p4 (fun h => h)⟩
      have E : Hid (evs (l.take (k + 1)) = evs (l.take k) ++ [.int .i64 l[k].cl, .int .i64 l[k].sq, .int .i64 l[k].kd, .int .i64 l[k].hv, .int .i64 l[k].st]) := by
        show _ = _
        rw [List.take_succ_eq_append_getElem hlt, evs_append, evs_one]
        rfl
      have HX := Lib.hid hX
      generalize l[k].cl = e0 at *
      generalize l[k].sq = e1 at *
      generalize l[k].kd = e2 at *
      generalize l[k].hv = e3 at *
      generalize l[k].st = e4 at *
      have HO := Lib.hid hown
      have HFR := Lib.hid hfr
      have HNW := Lib.hid hnew
      have hk0 : Fr No w wr.drew := hfr.drew
      have hk9 : Fr No w wr := hfr
      have HFA : Hid (Fr No w (wr.alloc (.cells #[.int .i64 e0, .int .i64 e1, .int .i64 e2, .int .i64 e3, .int .i64 e4] 73)).drew) := (hfr.alloc _).drew
      clear hX p0 p1 p2 p3 p4 hF hown hnew hfr
      go_upto_region 5 with (fail)
      go_region_held3 (fun W => Fr No w W ∧ W.cell? (ad.add (k * 5)) = some (.int .i64 e0) ∧ W.cell? ⟨(ad.add (k * 5)).block, (ad.add (k * 5)).off + 1, none⟩ = some (.int .i64 e1) ∧ W.cell? ⟨(ad.add (k * 5)).block, (ad.add (k * 5)).off + 2, none⟩ = some (.int .i64 e2) ∧ W.cell? ⟨(ad.add (k * 5)).block, (ad.add (k * 5)).off + 3, none⟩ = some (.int .i64 e3) ∧ W.cell? ⟨(ad.add (k * 5)).block, (ad.add (k * 5)).off + 4, none⟩ = some (.int .i64 e4))
        (first
          | (with_reducible refine HX.out _ ?_; with_reducible assumption)
          | (with_reducible refine HX.out _ (Fr.drew (Fr.alloc ?_ _)); with_reducible assumption)
          | (with_reducible refine HX.out _ (Fr.alloc ?_ _); with_reducible assumption)
          | (refine HX.out _ ?_; assumption))
        (first
          | (refine step_app _ rfl (.tmp 11) (.tmp 33) 37 37 rfl elE12 (HO.out.alloc (.cells #[.int .i64 e0, .int .i64 e1, .int .i64 e2, .int .i64 e3, .int .i64 e4] 73)).drew rfl (Src.of_new (cs := #[.int .i64 e0, .int .i64 e1, .int .i64 e2, .int .i64 e3, .int .i64 e4]) (t := 73) wr.heap.size (heap_alloc_new wr _) Tryz.underlying37 rfl (by simp [Value.oneCell'])) rfl (by simp only [maxLen]; omega) (by omega) ?_; intro v3 w3 hown3 hf3 hn3; have hk3 : Fr No w w3 := fr_no HFA.out HNW.out hf3))
      all_goals
        have HO3 := Lib.hid hown3
        have HN3 : Hid (Newer w.heap.size none v3.ownBlock) := HNW.out.trans (Newer.of hn3) HFA.out.size
        have HF3 := Lib.hid hk3
        clear hown3 hn3 hf3 hk3 hk0 hk9
        go_wp2
        go_roundw
        case rel =>
          refine ⟨k + 1, by omega, by go_num, ?_, HF3.out, HN3.out⟩
          rw [E.out]
          exact HO3.out
        case measure => simp [intOf]; omega
    · obtain rfl : k = l.length := by omega
      rw [List.take_length] at hown
      obtain ⟨A1, c1, rfl, -, -⟩ := hown.form
      have HO := Lib.hid hown
      have HF : Hid (Fr (AtO none) w wr) := hfr.mono fun _ _ h => False.elim h
      have HN := Lib.hid hnew
      clear hown hfr hnew
      go_wp2
      go_ret
      exact ⟨_, rfl, HO.out, HF.out, HN.out⟩
def Sm12Rel (w : World) (n : Nat) (iv : Value) (wr : World) : Prop := ∃ k : Nat, k ≤ n ∧ iv = .int .i64 k ∧ Fr No w wr
set_option maxRecDepth 100000 in
set_option maxHeartbeats 2000000 in
theorem same12_eq (F G : Nat → Prop) (A B : Option Addr) (c d : Nat) (l : List Ev) (w : World) (ha : Rd w F 5 A l.length (evs l)) (hb : Rd w G 5 B l.length (evs l)) (hl : l.length ≤ 1000000) :
    Calls Tryz.prog 11 #[.slice A l.length c, .slice B l.length d] w fun e w' => e = .returned (.bool true) ∧ Fr No w w' := by
  have HA := Lib.hid ha
  have HB := Lib.hid hb
  clear ha hb
  go_enter Tryz.func11, Tryz.ntmps11
  go_wp2
  go_loopw [5] (fun iv wr => Sm12Rel w l.length iv wr) (fun iv _ => l.length - (intOf iv).toNat)
  case atStart => exact ⟨0, Nat.zero_le _, rfl, Fr.refl _ _⟩
  case round =>
    obtain ⟨k, hk, rfl, hfr⟩ := hrel
    have hk62 : (k : Int) ≤ 1000000 := by omega
    by_cases hlt : k < l.length
    · obtain ⟨ad, rfl, _, p0, p1, p2, p3, p4⟩ := ev_at (HA.out.fr (by decide : 0 < 5) hfr (fun _ _ _ h => h)) k hlt
      obtain ⟨bd, rfl, _, q0, q1, q2, q3, q4⟩ := ev_at (HB.out.fr (by decide : 0 < 5) hfr (fun _ _ _ h => h)) k hlt
      generalize l[k].cl = e0 at *
      generalize l[k].sq = e1 at *
      generalize l[k].kd = e2 at *
      generalize l[k].hv = e3 at *
      generalize l[k].st = e4 at *
      have HFR := Lib.hid hfr
      clear hfr
      go_upto_region 6 with (fail)
      go_quiet (fail)
      go_wp2
      go_roundw
      case rel => exact ⟨k + 1, by omega, by go_num, HFR.out.drewN _⟩
      case measure => simp [intOf]; omega
    · obtain rfl : k = l.length := by omega
      go_wp2
      go_ret
      exact ⟨rfl, hfr⟩
end Go.Proofs.YtlanhclgbkhdlaaGreat

namespace Go.Proofs.YtlanhclgbkhdlaaGreat
open Go.RowKit Go.My Go.Maps
set_option linter.unusedSimpArgs false
set_option linter.unusedVariables false

def NmB (S : List Ac) : Prop := ∀ a ∈ S, nameB a.name = true
theorem NmB.put {S : List Ac} (h : NmB S) {a : Ac} (ha : nameB a.name = true) : NmB (putA a S) := fun b hb => by
  rcases mem_putA hb with rfl | hb
  · exact ha
  · exact h b hb
theorem NmB.act {S : List Ac} (h : NmB S) {f : Ac → Int} {g : Ac → Ac} (hg : ∀ a, (g a).name = a.name) (nm : List UInt8) : NmB (actS f g S nm) := by
  unfold actS
  cases hq : getA S nm with
  | none => exact h
  | some a =>
    simp only
    split
    · exact h.put (by rw [hg]; exact h a (getA_some hq).1)
    · exact h
theorem NmB.asd {S : List Ac} (h : NmB S) (nm : List UInt8) (x : Int) : NmB (asdS S nm x) := h.act (fun a => asideA_name a x) nm
theorem NmB.leg {S : List Ac} (h : NmB S) (g : Lg) : NmB (legS S g) := by
  unfold legS
  split
  · exact h.act (fun a => giveA_name a _) _
  · exact h
theorem NmB.legs {S : List Ac} (h : NmB S) (L : List Lg) : NmB (legsS S L) := by
  induction L generalizing S with
  | nil => exact h
  | cons g r ih =>
    unfold legsS
    split
    · exact ih (h.leg g)
    · exact h
theorem NmB.make {S : List Ac} (h : NmB S) (L : List Lg) : NmB (makeS S L) := by
  unfold makeS
  split
  · exact h.legs L
  · exact h
theorem NmB.doB {b : Bk} (h : NmB b.S) (o : Od) : NmB (doB b o).S := by
  unfold Go.Proofs.YtlanhclgbkhdlaaGreat.doB
  split
  · unfold effB
    split
    · simp only
      unfold openS
      split
      · rename_i h0
        refine h.put ?_
        unfold openE at h0
        split at h0
        · cases h0
        · rename_i h1
          simp only [not_or, Bool.not_eq_false] at h1
          exact h1.1
      · exact h
    split
    · split
      · exact h
      · exact h.make _
    split
    · simp only
      unfold putSS
      split
      · exact h.asd _ _
      · exact h
    split
    · split
      · exact h
      · simp only
        unfold takeSS
        split
        · exact (h.asd _ _).make _
        · exact h
    split
    · simp only
      unfold freeSS
      split
      · exact h
      · exact h.asd _ _
    split
    · split
      · exact h
      · exact h
    exact h
  · exact h
theorem NmB.fold {b : Bk} (h : NmB b.S) (l : List Od) : NmB (foldB b l).S := by
  induction l generalizing b with
  | nil => exact h
  | cons o r ih => exact ih (h.doB o)
theorem nmB0 : NmB bk0.S := fun a h => by cases h

/-- an order of a client's -/
def askOd (seq kd : Int) (acct : ByteArray) (sum : Int) : Od := ⟨0, seq, kd, acct, ⟨#[]⟩, sum, [], 0, 0, ⟨#[]⟩⟩
theorem ask_right {s : Int} (hs : 1 ≤ s ∧ s ≤ 999) (a : ByteArray) : rightO (askOd s 7 a 0) = nameB a.data.toList := by
  unfold rightO idB acctB peerB sumB legsB perB holdB noteB askOd Od.an Od.pn
  simp [hs.1, hs.2]
theorem ask_do {b : Bk} {s : Int} (hs : 1 ≤ s ∧ s ≤ 999) (a : ByteArray) : doR b (askOd s 7 a 0) = (if nameB a.data.toList = true then aboutR b.S a.data.toList 0 else errR 1) ∧ doB b (askOd s 7 a 0) = b := by
  unfold doR doB
  rw [ask_right hs]
  refine ⟨rfl, ?_⟩
  split <;> rfl
/-- what is told: of an account, or that there is none -/
theorem ask_case {b : Bk} (hn : NmB b.S) (hr : Rise b.S) (a : ByteArray) : ∃ R : Rp, (∀ s, 1 ≤ s ∧ s ≤ 999 → doR b (askOd s 7 a 0) = R) ∧ ((∃ c, c ∈ b.S ∧ c.name = a.data.toList ∧ R = ⟨0, c.hv, c.st, 0⟩ ∧ ∀ d ∈ b.S, d.name = a.data.toList → d = c) ∨ ((∀ c ∈ b.S, c.name ≠ a.data.toList) ∧ (R = ⟨6, 0, 0, 0⟩ ∨ R = ⟨1, 0, 0, 0⟩))) := by
  refine ⟨_, fun s hs => (ask_do hs a).1, ?_⟩
  cases hg : getA b.S a.data.toList with
  | none =>
    refine .inr ⟨getA_none hg, ?_⟩
    split
    · left
      unfold aboutR getV
      rw [if_pos rfl, hg]
      rfl
    · right; rfl
  | some c =>
    obtain ⟨hc, hcn⟩ := getA_some hg
    have h1 : nameB a.data.toList = true := by rw [← hcn]; exact hn c hc
    refine .inl ⟨c, hc, hcn, ?_, fun d hd hdn => ?_⟩
    · rw [if_pos h1]
      unfold aboutR getV
      rw [if_pos rfl, hg]
      rfl
    · have h2 := getA_mem hr hd
      rw [hdn, hg] at h2
      injection h2 with h2
      exact h2.symm
end Go.Proofs.YtlanhclgbkhdlaaGreat

namespace Go.Proofs.YtlanhclgbkhdlaaGreat
open Go.RowKit Go.My Go.Maps
set_option linter.unusedSimpArgs false
set_option linter.unusedVariables false
attribute [local go_sem ↓] Go.wp_at_zero Go.wp_at_succ

instance : DecidableEq Ev := fun a b =>
  if h : a.cl = b.cl ∧ a.sq = b.sq ∧ a.kd = b.kd ∧ a.hv = b.hv ∧ a.st = b.st then isTrue (by cases a; cases b; simp_all) else isFalse (fun e => h (by subst e; exact ⟨rfl, rfl, rfl, rfl, rfl⟩))
def lv1 : Od := askOd 1 1 ⟨#[97]⟩ 5
def lv2 : Od := askOd 2 3 ⟨#[97]⟩ 3
theorem lv1_ok : lv1.ok := by
  unfold lv1 askOd Od.ok In64
  refine ⟨by simp, by simp, by simp, by decide, ?_, by simp, by simp, by simp, ?_⟩ <;> (show (⟨#[]⟩ : ByteArray).size ≤ maxLen; decide)
theorem lv2_ok : lv2.ok := by
  unfold lv2 askOd Od.ok In64
  refine ⟨by simp, by simp, by simp, by decide, ?_, by simp, by simp, by simp, ?_⟩ <;> (show (⟨#[]⟩ : ByteArray).size ≤ maxLen; decide)
theorem lv_R1 : doR bk0 lv1 = ⟨0, 0, 0, 0⟩ := by decide +kernel
theorem lv_R2 : doR (doB bk0 lv1) lv2 = ⟨0, 0, 3, 2⟩ := by decide +kernel
theorem lv_E : newEv bk0 lv1 [97] ++ newEv (doB bk0 lv1) lv2 [97] = [⟨0, 1, 1, 0, 0⟩, ⟨0, 2, 3, 0, 3⟩] := by decide +kernel
theorem lv_E0 : readE noRd 0 [109, 101] [97] = 0 := by decide +kernel
theorem add_pos12 (a : Addr) (j : Nat) (h : 0 < j) : a.add j = ⟨a.block, a.off + j, none⟩ := by
  unfold Addr.add
  rw [if_neg (by omega)]
set_option maxRecDepth 100000 in
set_option maxHeartbeats 4000000 in
theorem lives12 (w : World) : Calls Tryz.prog 7 #[] w fun e w' => e = .returned (.bool true) ∧ Fr No w w' := by
  have HD1 : Hid (∀ W d f g k, DkS W d f 0 bk0 noEv k g → Calls Tryz.prog 16 #[.pointer (some ⟨d.p, 0, none⟩), .agg #[.int .i64 0, .int .i64 1, .int .i64 1, .string ⟨#[97]⟩, .string ⟨#[]⟩, .int .i64 5, .slice none 0 0, .int .i64 0, .int .i64 0, .string ⟨#[]⟩]] W (DoneS d f 0 bk0 noEv k g lv1 W)) := fun W d f g k h =>
    ddo_any (fun _ => False) lv1 (.slice none 0 0) W h lv1_ok (LgS_nil _ _) (fun _ h => h.elim) (by decide) (by omega) (fun _ => by simp [noEv])
  have HD2 : Hid (∀ W d f g k, DkS W d f 12 (doB bk0 lv1) (fun nm => noEv nm ++ newEv bk0 lv1 nm) k g → Calls Tryz.prog 16 #[.pointer (some ⟨d.p, 0, none⟩), .agg #[.int .i64 0, .int .i64 2, .int .i64 3, .string ⟨#[97]⟩, .string ⟨#[]⟩, .int .i64 3, .slice none 0 0, .int .i64 0, .int .i64 0, .string ⟨#[]⟩]] W (DoneS d f 12 (doB bk0 lv1) (fun nm => noEv nm ++ newEv bk0 lv1 nm) k g lv2 W)) := fun W d f g k h =>
    ddo_any (fun _ => False) lv2 (.slice none 0 0) W h lv2_ok (LgS_nil _ _) (fun _ h => h.elim) (by decide) (by omega) (fun nm => by have := newEv_len bk0 lv1 nm; simp [noEv]; omega)
  unfold DoneS at HD1 HD2
  rw [lv_R1] at HD1
  rw [lv_R2] at HD2
  have HEE : Hid ((noEv [97] ++ newEv bk0 lv1 [97]) ++ newEv (doB bk0 lv1) lv2 [97] = [⟨0, 1, 1, 0, 0⟩, ⟨0, 2, 3, 0, 3⟩]) := lv_E
  have HNW := Lib.hid (dnew_any w)
  go_enter Tryz.func7, Tryz.ntmps7
  go_wp2_with fail
  (with_reducible refine HNW.out.mono ?_)
  rintro e w1 ⟨d, rfl, hd1, hf1, hn1⟩
  have hn64 := hf1.size
  have HF1 := Lib.hid hf1
  have HN1 := Lib.hid hn1
  have HDa := Lib.hid hd1
  clear hf1 hn1 hd1 HNW
  go_wp2_with fail
  refine (HD1.out _ d noF noRd 0 HDa.out).mono ?_
  rintro e w2 ⟨f2, rfl, hd2, hf2, hs2⟩
  have HDb := Lib.hid hd2
  have HN2 : Hid (∀ i, d.all f2 i → w.heap.size ≤ i) := Dp.new HN1.out hn64 hs2
  have HF2 : Hid (Fr No w w2) := HF1.out.trans' hf2 (fun i hi hlt => by have := HN1.out i (Dp.wr_all hi); omega)
  have hn65 := HF2.out.size
  clear hd2 hf2 hs2 HD1
  unfold Rp.val
  go_wp2_with fail
  refine (HD2.out _ d f2 noRd 0 HDb.out).mono ?_
  rintro e w3 ⟨f3, rfl, hd3, hf3, hs3⟩
  have HDc := Lib.hid hd3
  have HN3 : Hid (∀ i, d.all f3 i → w.heap.size ≤ i) := Dp.new HN2.out hn65 hs3
  have HF3 : Hid (Fr No w w3) := HF2.out.trans' hf3 (fun i hi hlt => by have := HN2.out i (Dp.wr_all hi); omega)
  clear hd3 hf3 hs3 HD2
  unfold Rp.val
  have HRD := Lib.hid (fun W hW => dread_any (d := d) (f := f3) (N := 12 + 12) (b := doB (doB bk0 lv1) lv2) (E := fun nm => (noEv nm ++ newEv bk0 lv1 nm) ++ newEv (doB bk0 lv1) lv2 nm) (k := 0) (g := noRd) ⟨#[109, 101]⟩ ⟨#[97]⟩ W hW (by decide) (by decide) (by omega))
  have HRE : Hid (readE noRd 0 (⟨#[109, 101]⟩ : ByteArray).data.toList (⟨#[97]⟩ : ByteArray).data.toList = 0) := lv_E0
  have HRG : Hid (readG noRd 0 (⟨#[109, 101]⟩ : ByteArray).data.toList ⟨#[97]⟩ = setG noRd (⟨#[109, 101]⟩ : ByteArray).data.toList (⟨#[97]⟩, 0)) := by show _ = _; unfold readG; rw [HRE.out]; rfl
  rw [HRE.out, HRG.out] at HRD
  clear HRE HRG
  generalize hb3 : doB (doB bk0 lv1) lv2 = b3 at *
  clear hb3
  have HPL : Hid (∀ W k, DkS W d f3 (12 + 12) b3 (fun nm => (noEv nm ++ newEv bk0 lv1 nm) ++ newEv (doB bk0 lv1) lv2 nm) k (setG noRd (⟨#[109, 101]⟩ : ByteArray).data.toList (⟨#[97]⟩, 0)) → Calls Tryz.prog 17 #[.pointer (some ⟨d.p, 0, none⟩), .string ⟨#[109, 101]⟩, .int .i64 9] W fun e w' => ∃ v, e = .returned (.tuple #[v, .int .i64 0]) ∧ Own w' 65 5 v 2 (evs [⟨0, 1, 1, 0, 0⟩, ⟨0, 2, 3, 0, 3⟩]) ∧ Fr No W w' ∧ ∀ i, v.ownBlock = some i → W.heap.size ≤ i) := fun W k hW => by
    have h := poll_some ⟨#[109, 101]⟩ 9 W hW (by decide) (by unfold In64; omega) (a := ⟨#[97]⟩) (t := 0) (by unfold setG; rw [if_pos rfl]) (by
      show ((noEv [97] ++ newEv bk0 lv1 [97]) ++ newEv (doB bk0 lv1) lv2 [97]).length ≤ 1000000
      rw [HEE.out]
      decide)
    have e2 : (((noEv [97] ++ newEv bk0 lv1 [97]) ++ newEv (doB bk0 lv1) lv2 [97]).drop 0).take (9 : Int).toNat = [⟨0, 1, 1, 0, 0⟩, ⟨0, 2, 3, 0, 3⟩] := by rw [HEE.out]; rfl
    have e3 : ((((fun nm => (noEv nm ++ newEv bk0 lv1 nm) ++ newEv (doB bk0 lv1) lv2 nm) (⟨#[97]⟩ : ByteArray).data.toList).drop 0).take (9 : Int).toNat) = [⟨0, 1, 1, 0, 0⟩, ⟨0, 2, 3, 0, 3⟩] := e2
    rw [e3] at h
    exact h
  go_wp2_with fail
  refine (HRD.out _ (HDc.out.no ((Fr.refl _ _).alloc _))).mono ?_
  rintro e w4 ⟨rfl, hd4, hf4⟩
  have hbr := (Blk.new w3 47 #[.int .i64 0, .int .i64 0, .int .i64 3, .int .i64 2]).fr hf4 (fun e => by
    have e : w3.heap.size = d.r := e
    have := HDc.out.rd.lt
    omega)
  have HF4 : Hid (Fr No w w4) := (HF3.out.alloc _).trans' hf4 (fun i hi hlt => by
    have e : i = d.r := hi
    have := HN3.out d.r (.inr (.inr (.inr rfl)))
    omega)
  have HBR := Lib.hid hbr
  have HD4 := Lib.hid hd4
  clear hbr hd4 hf4 HRD
  go_wp2_with fail
  refine (HPL.out _ _ HD4.out).mono ?_
  rintro e w5 ⟨v5, rfl, ho5, hf5, hn5⟩
  have b3 := (HBR.out.fr hf5 (fun h => h)).cell 3
  obtain ⟨A5, c5, rfl, hc5, hm5⟩ := ho5.form
  obtain ⟨ad, rfl, _, p0, p1, p2, p3, p4⟩ := ev_at (S := [⟨0, 1, 1, 0, 0⟩, ⟨0, 2, 3, 0, 3⟩]) ho5.rd 1 (by decide)
  simp only [List.getElem?_toArray, List.getElem?_cons_zero, List.getElem?_cons_succ] at b3
  simp at p0 p1 p2 p3 p4
  rw [add_pos12 ad 5 (by omega)] at p0 p1 p2 p3 p4
  have HF5 : Hid (Fr No w w5) := HF4.out.trans hf5
  clear ho5 hf5 hn5 HPL
  go_wp2
  go_ret
  exact ⟨rfl, HF5.out⟩
end Go.Proofs.YtlanhclgbkhdlaaGreat
