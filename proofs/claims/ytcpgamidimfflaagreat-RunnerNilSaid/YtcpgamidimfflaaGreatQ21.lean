/- What each kind of order does to a book in memory. -/
import Derived.Test.YtcpgamidimfflaaGreatQ20
namespace Go.Proofs.YtcpgamidimfflaaGreat
open Go.RowKit Go.My Go.Maps
set_option linter.unusedSimpArgs false
set_option linter.unusedVariables false
attribute [local go_sem ↓] Go.wp_at_zero Go.wp_at_succ
def DidB (q : Pl) (r : Rp) (b : Bk) (w : World) (e : Ending) (w' : World) : Prop := e = .returned r.val ∧ BkS w' q b ∧ Fr q.wr w w'
theorem eff_inv {b : Bk} (h : BkI b) {o : Od} (ho : o.ok) (hr : rightO o = true) : BkI (effB b o) := by
  have h1 := do_inv h ho
  unfold doB at h1
  rw [if_pos hr] at h1
  exact h1
theorem Pl.far {q : Pl} {w : World} {b : Bk} (h : BkS w q b) {g : Nat} (hg : w.heap.size ≤ g) : ¬ q.wr g := fun e => by
  have := h.lt g (Pl.wr_all e)
  omega
def At3 (m k g : Nat) : Nat → Prop := fun i => i = m ∨ i = k ∨ i = g
theorem blk_set4 {w : World} {g : Nat} {t : TypeId} {x0 x1 x2 x3 : Value} (h : Blk w g t #[x0, x1, x2, x3]) (a b c d : Value) : Blk ((((w.setCell ⟨g, 0, none⟩ a).setCell ⟨g, 1, none⟩ b).setCell ⟨g, 2, none⟩ c).setCell ⟨g, 3, none⟩ d) g t #[a, b, c, d] :=
  (((h.set_ 0 a).set_ 1 b).set_ 2 c).set_ 3 d
theorem did_of {q : Pl} {b b' : Bk} {w w1 u W : World} {g : Nat} (hq : BkS w q b) (hg : w.heap.size ≤ g) (hf : Fr No w w1) (hk : Fr (At2 q.m q.k) w1 u) (hb : BkS u q b') (hx : Fr (At1 g) u W) : BkS W q b' ∧ Fr q.wr w W := by
  have h1 : Fr q.wr w u := (hf.mono (T := q.wr) fun _ _ h => False.elim h).trans (Pl.wr_mk hk)
  refine ⟨hb.fr hx fun i hi e => ?_, h1.trans' hx fun i hi hlt => ?_⟩
  · have := hq.lt i hi
    have : i = g := e
    omega
  · have : i = g := hi
    omega
theorem number_any (a b : Int) (ha : 0 ≤ a ∧ a ≤ 9) (hb : 1 ≤ b ∧ b ≤ 999) (w : World) : Calls Tryz.prog 201 #[.agg #[.int .i64 a, .int .i64 b]] w fun e w' => e = .returned (.int .i64 (1000 * a + b)) ∧ Fr No w w' := by
  obtain ⟨a1, a2⟩ := ha
  obtain ⟨b1, b2⟩ := hb
  go_enter Tryz.func201, Tryz.ntmps201
  go_wp2
  go_ret
  exact ⟨rfl, (Fr.refl _ _).alloc _⟩
set_option maxRecDepth 100000 in
set_option maxHeartbeats 2000000 in
theorem bopen_any (q : Pl) (b : Bk) (o : Od) (v : Value) (w : World) (h : BkS w q b) (ho : o.ok) (hr : rightO o = true) (hk : o.kd = 1) :
    Calls Tryz.prog 149 #[.pointer (some ⟨q.p, 0, none⟩), o.val v] w (DidB q (effR b o) (effB b o) w) := by
  have hI := eff_inv h.inv ho hr
  have eB : effB b o = ⟨openS b.S o.an o.sum, b.H, b.cl⟩ := by unfold effB; rw [if_pos hk]
  have eR : effR b o = aboutR (openS b.S o.an o.sum) o.an (openE b.S o.an o.sum) := by unfold effR; rw [if_pos hk]
  rw [eB] at hI
  rw [eB, eR]
  obtain ⟨-, -, -, hac, hpe, hsm, hpr, hhd, -⟩ := ho
  clear eB eR hr
  obtain ⟨ocl, osq, okd, oac, ope, osm, olg, opr, ohd, ont⟩ := o
  unfold Od.val Od.cs Od.an at *
  simp only at hac hpe hsm hpr hhd hI ⊢
  clear hk
  have HH := Lib.hid h
  have HI := Lib.hid hI
  have HO : Hid (∀ W, Fr No w W → Calls Tryz.prog 198 #[.pointer (some ⟨q.c, 0, none⟩), .string oac, .int .i64 osm] W fun e w' => e = .returned (.int .i64 (openE b.S oac.data.toList osm)) ∧ BkS w' q ⟨openS b.S oac.data.toList osm, b.H, b.cl⟩ ∧ Fr (At2 q.m q.k) W w') := fun W hW =>
    (open_any q.c q.m b.S oac osm W (h.ch.no hW) hac hsm h.inv.st.kp.inv.len).mono fun e w' hx => ⟨hx.1, (h.no hW).chart hx.2.1 hx.2.2 hI, hx.2.2.mono fun _ _ h => .inl h⟩
  generalize openE b.S oac.data.toList osm = E at *
  generalize openS b.S oac.data.toList osm = T at *
  obtain ⟨re, rh, rs, rn, hR⟩ : ∃ a b c d, aboutR T oac.data.toList E = ⟨a, b, c, d⟩ := ⟨_, _, _, _, rfl⟩
  have HAB : Hid (∀ W, BkS W q ⟨T, b.H, b.cl⟩ → Calls Tryz.prog 197 #[.pointer (some ⟨q.p, 0, none⟩), .string oac, .int .i64 E] W fun e w' => e = .returned (.agg #[.int .i64 re, .int .i64 rh, .int .i64 rs, .int .i64 rn]) ∧ BkS w' q ⟨T, b.H, b.cl⟩ ∧ Fr (At2 q.m q.k) W w') := fun W hW => by
    have hx := about_any q ⟨T, b.H, b.cl⟩ oac E W hW hac
    rw [hR] at hx
    exact hx.mono fun e w' h => ⟨h.1, h.2.1, h.2.2.mono fun _ _ h => .inl h⟩
  rw [hR]
  have hfar : ∀ g, w.heap.size ≤ g → ¬ At2 q.m q.k g := fun g hg e => Pl.far h hg (by rcases e with e | e; exact .inr (.inl e); exact .inr (.inr e))
  have hbk := h.blk
  have hbo := Blk.new w 35 #[.int .i64 ocl, .int .i64 osq, .int .i64 okd, .string oac, .string ope, .int .i64 osm, v, .int .i64 opr, .int .i64 ohd, .string ont]
  have hbr := Blk.new (w.alloc (.cells #[.int .i64 ocl, .int .i64 osq, .int .i64 okd, .string oac, .string ope, .int .i64 osm, v, .int .i64 opr, .int .i64 ohd, .string ont] 35)) 50 #[.int .i64 0, .int .i64 0, .int .i64 0, .int .i64 0]
  rw [World.size_alloc] at hbr
  have hbo1 := hbo.alloc (.cells #[.int .i64 0, .int .i64 0, .int .i64 0, .int .i64 0] 50)
  have hf1 : Fr No w ((w.alloc (.cells #[.int .i64 ocl, .int .i64 osq, .int .i64 okd, .string oac, .string ope, .int .i64 osm, v, .int .i64 opr, .int .i64 ohd, .string ont] 35)).alloc (.cells #[.int .i64 0, .int .i64 0, .int .i64 0, .int .i64 0] 50)) := ((Fr.refl _ _).alloc _).alloc _
  have hmp := h.mp
  have hlt : q.p < w.heap.size := h.blk.lt
  clear h hI hR hac hsm hpe hpr hhd hbo
  go_enter Tryz.func149, Tryz.ntmps149
  go_upto_region 1 with (fail)
  generalize ((w.alloc (.cells #[.int .i64 ocl, .int .i64 osq, .int .i64 okd, .string oac, .string ope, .int .i64 osm, v, .int .i64 opr, .int .i64 ohd, .string ont] 35)).alloc (.cells #[.int .i64 0, .int .i64 0, .int .i64 0, .int .i64 0] 50)) = w1 at *
  have HF1 := Lib.hid hf1
  have HBR := Lib.hid hbr
  have HX : Hid (∀ W, Fr (At3 q.m q.k (w.heap.size + 1)) w1 W → Fr (At3 q.m q.k (w.heap.size + 1)) w1 W ∧ W.cell? ⟨q.p, 0, none⟩ = some (.pointer (some ⟨q.c, 0, none⟩)) ∧ W.cell? ⟨q.p, 1, none⟩ = some (.pointer (some ⟨q.h, 0, none⟩)) ∧ W.cell? ⟨w.heap.size, 3, none⟩ = some (.string oac) ∧ W.cell? ⟨w.heap.size, 5, none⟩ = some (.int .i64 osm)) := fun W hW => by
    have h1 := hbo1.fr hW (fun e => by rcases e with e | e | e; exact hfar _ (Nat.le_refl _) (.inl e); exact hfar _ (Nat.le_refl _) (.inr e); omega)
    have h2 := (hbk.fr hf1 (fun h => h)).fr hW (fun e => by rcases e with e | e | e; exact hmp.1 e.symm; exact hmp.2 e.symm; omega)
    exact ⟨hW, h2.cell 0, h2.cell 1, h1.cell 3, h1.cell 5⟩
  have HFAR := Lib.hid hfar
  have hw1 : Fr (At3 q.m q.k (w.heap.size + 1)) w1 w1.drew := (Fr.refl _ w1).drew
  clear hf1 hbr hbo1 hbk hfar hmp hlt
  go_region_held3 (fun W => Fr (At3 q.m q.k (w.heap.size + 1)) w1 W ∧ W.cell? ⟨q.p, 0, none⟩ = some (.pointer (some ⟨q.c, 0, none⟩)) ∧ W.cell? ⟨q.p, 1, none⟩ = some (.pointer (some ⟨q.h, 0, none⟩)) ∧ W.cell? ⟨w.heap.size, 3, none⟩ = some (.string oac) ∧ W.cell? ⟨w.heap.size, 5, none⟩ = some (.int .i64 osm))
    (first
      | (refine HX.out _ ?_; with_reducible assumption)
      | (refine HX.out _ (Fr.trans ?_ ((fr_set4 _ _ _ _ _ _).mono fun _ _ h => .inr (.inr h))); with_reducible assumption))
    (first
      | (go_at_call 198; (with_reducible refine (HO.out _ (HF1.out.drew)).mono ?_); rintro e u1 ⟨rfl, hb1, hg⟩; have ka1 : Fr (At2 q.m q.k) w1 u1 := Fr.trans (Fr.refl _ w1).drew hg; have hg1 : Fr (At3 q.m q.k (w.heap.size + 1)) w1 u1 := ka1.mono (fun _ _ h => by rcases h with h | h; exact .inl h; exact .inr (.inl h)); clear hg)
      | (go_at_call 197; (with_reducible refine (HAB.out _ hb1).mono ?_); rintro e u2 ⟨rfl, hb2, hg⟩; have ka2 : Fr (At2 q.m q.k) w1 u2 := Fr.trans ka1 hg; have hg2 : Fr (At3 q.m q.k (w.heap.size + 1)) w1 u2 := ka2.mono (fun _ _ h => by rcases h with h | h; exact .inl h; exact .inr (.inl h)); clear hg; have hr2 := HBR.out.fr ka2 (HFAR.out _ (Nat.le_succ _)); have c0 := hr2.cell 0; have c1 := hr2.cell 1; have c2 := hr2.cell 2; have c3 := hr2.cell 3; have f0 := hr2.frozen 0; have f1 := hr2.frozen 1; have f2 := hr2.frozen 2; have f3 := hr2.frozen 3; simp only [List.getElem?_toArray, List.getElem?_cons_zero, List.getElem?_cons_succ] at c0 c1 c2 c3))
  all_goals
    have hd := blk_set4 hr2 (.int .i64 re) (.int .i64 rh) (.int .i64 rs) (.int .i64 rn)
    have HD := Lib.hid (did_of HH.out (Nat.le_succ _) HF1.out ka2 hb2 (fr_set4 u2 (w.heap.size + 1) (.int .i64 re) (.int .i64 rh) (.int .i64 rs) (.int .i64 rn)))
    clear c0 c1 c2 c3 f0 f1 f2 f3 hr2 HX
    generalize (((u2.setCell ⟨w.heap.size + 1, 0, none⟩ (.int .i64 re)).setCell ⟨w.heap.size + 1, 1, none⟩ (.int .i64 rh)).setCell ⟨w.heap.size + 1, 2, none⟩ (.int .i64 rs)).setCell ⟨w.heap.size + 1, 3, none⟩ (.int .i64 rn) = u3 at *
    have d0 := hd.cell 0
    have d1 := hd.cell 1
    have d2 := hd.cell 2
    have d3 := hd.cell 3
    simp only [List.getElem?_toArray, List.getElem?_cons_zero, List.getElem?_cons_succ] at d0 d1 d2 d3
    go_wp2
    refine bodyPost_ret (v := .agg #[.int .i64 re, .int .i64 rh, .int .i64 rs, .int .i64 rn]) (by simp [results, Tryz.results149, go_sem, d0, d1, d2, d3]) rfl ?_
    exact ⟨rfl, HD.out⟩
set_option maxRecDepth 100000 in
set_option maxHeartbeats 2000000 in
theorem bcapture_any (q : Pl) (b : Bk) (o : Od) (v : Value) (w : World) (h : BkS w q b) (ho : o.ok) (hr : rightO o = true) (hk : o.kd = 4) (hcl : ¬ o.per ≤ b.cl) :
    Calls Tryz.prog 152 #[.pointer (some ⟨q.p, 0, none⟩), o.val v] w (DidB q (effR b o) (effB b o) w) := by
  have hI := eff_inv h.inv ho hr
  have eB : effB b o = ⟨takeSS b.S b.H o.acct o.hold o.peer o.sum, takeHH b.S b.H o.acct o.hold o.peer o.sum, b.cl⟩ := by unfold effB; rw [if_neg (show ¬ o.kd = 1 by omega), if_neg (show ¬ o.kd = 2 by omega), if_neg (show ¬ o.kd = 3 by omega), if_pos hk, if_neg hcl]
  have eR : effR b o = aboutR (takeSS b.S b.H o.acct o.hold o.peer o.sum) o.an (takeE b.S b.H o.acct o.hold o.peer o.sum) := by unfold effR; rw [if_neg (show ¬ o.kd = 1 by omega), if_neg (show ¬ o.kd = 2 by omega), if_neg (show ¬ o.kd = 3 by omega), if_pos hk, if_neg hcl]
  rw [eB] at hI
  rw [eB, eR]
  obtain ⟨-, -, -, hac, hpe, hsm, hpr, hhd, -⟩ := ho
  clear eB eR hr
  obtain ⟨ocl, osq, okd, oac, ope, osm, olg, opr, ohd, ont⟩ := o
  unfold Od.val Od.cs Od.an at *
  simp only at hac hpe hsm hpr hhd hI hcl ⊢
  clear hk
  have HH := Lib.hid h
  have HI := Lib.hid hI
  have HO : Hid (∀ W, Fr No w W → Calls Tryz.prog 203 #[.pointer (some ⟨q.h, 0, none⟩), .pointer (some ⟨q.c, 0, none⟩), .string oac, .int .i64 ohd, .string ope, .int .i64 osm] W fun e w' => e = .returned (.int .i64 (takeE b.S b.H oac ohd ope osm)) ∧ BkS w' q ⟨takeSS b.S b.H oac ohd ope osm, takeHH b.S b.H oac ohd ope osm, b.cl⟩ ∧ Fr (At2 q.m q.k) W w') := fun W hW =>
    (take_any q.c q.m q.h q.k b.S b.H oac ope ohd osm W (h.ch.no hW) h.inv.st.kp.inv h.inv.st.kp.good (h.hd.no hW) h.inv.st.pos (by have := h.inv.st.len; omega) h.ne hac hpe hhd hsm).mono fun e w' hx => ⟨hx.ret, (h.no hW).both hx hI, hx.fr⟩
  generalize takeE b.S b.H oac ohd ope osm = E at *
  generalize takeSS b.S b.H oac ohd ope osm = T at *
  generalize takeHH b.S b.H oac ohd ope osm = T2 at *
  obtain ⟨re, rh, rs, rn, hR⟩ : ∃ a b c d, aboutR T oac.data.toList E = ⟨a, b, c, d⟩ := ⟨_, _, _, _, rfl⟩
  have HAB : Hid (∀ W, BkS W q ⟨T, T2, b.cl⟩ → Calls Tryz.prog 197 #[.pointer (some ⟨q.p, 0, none⟩), .string oac, .int .i64 E] W fun e w' => e = .returned (.agg #[.int .i64 re, .int .i64 rh, .int .i64 rs, .int .i64 rn]) ∧ BkS w' q ⟨T, T2, b.cl⟩ ∧ Fr (At2 q.m q.k) W w') := fun W hW => by
    have hx := about_any q ⟨T, T2, b.cl⟩ oac E W hW hac
    rw [hR] at hx
    exact hx.mono fun e w' h => ⟨h.1, h.2.1, h.2.2.mono fun _ _ h => .inl h⟩
  rw [hR]
  have hfar : ∀ g, w.heap.size ≤ g → ¬ At2 q.m q.k g := fun g hg e => Pl.far h hg (by rcases e with e | e; exact .inr (.inl e); exact .inr (.inr e))
  have hbk := h.blk
  have hbo := Blk.new w 35 #[.int .i64 ocl, .int .i64 osq, .int .i64 okd, .string oac, .string ope, .int .i64 osm, v, .int .i64 opr, .int .i64 ohd, .string ont]
  have hbr := Blk.new (w.alloc (.cells #[.int .i64 ocl, .int .i64 osq, .int .i64 okd, .string oac, .string ope, .int .i64 osm, v, .int .i64 opr, .int .i64 ohd, .string ont] 35)) 50 #[.int .i64 0, .int .i64 0, .int .i64 0, .int .i64 0]
  rw [World.size_alloc] at hbr
  have hbo1 := hbo.alloc (.cells #[.int .i64 0, .int .i64 0, .int .i64 0, .int .i64 0] 50)
  have hf1 : Fr No w ((w.alloc (.cells #[.int .i64 ocl, .int .i64 osq, .int .i64 okd, .string oac, .string ope, .int .i64 osm, v, .int .i64 opr, .int .i64 ohd, .string ont] 35)).alloc (.cells #[.int .i64 0, .int .i64 0, .int .i64 0, .int .i64 0] 50)) := ((Fr.refl _ _).alloc _).alloc _
  have hmp := h.mp
  have hlt : q.p < w.heap.size := h.blk.lt
  have HCL : Hid (∀ W, Fr No w W → Calls Tryz.prog 199 #[.pointer (some ⟨q.p, 0, none⟩), .int .i64 opr] W fun e w' => e = .returned (.bool false) ∧ W = w') := fun W hW => by
    have hx := isClosed_any q b opr W (h.no hW)
    rw [decide_eq_false hcl] at hx
    exact hx
  clear hcl
  have o7 := hbo1.cell 7
  simp only [List.getElem?_toArray, List.getElem?_cons_zero, List.getElem?_cons_succ] at o7
  clear h hI hR hac hsm hpe hpr hhd hbo
  go_enter Tryz.func152, Tryz.ntmps152
  go_wp2_with fail
  (with_reducible refine (HCL.out _ (((Fr.refl _ _).alloc _).alloc _)).mono ?_)
  rintro e w0 ⟨rfl, rfl⟩
  clear HCL o7
  go_upto_region 3 with (fail)
  generalize ((w.alloc (.cells #[.int .i64 ocl, .int .i64 osq, .int .i64 okd, .string oac, .string ope, .int .i64 osm, v, .int .i64 opr, .int .i64 ohd, .string ont] 35)).alloc (.cells #[.int .i64 0, .int .i64 0, .int .i64 0, .int .i64 0] 50)) = w1 at *
  have HF1 := Lib.hid hf1
  have HBR := Lib.hid hbr
  have HX : Hid (∀ W, Fr (At3 q.m q.k (w.heap.size + 1)) w1 W → Fr (At3 q.m q.k (w.heap.size + 1)) w1 W ∧ W.cell? ⟨q.p, 0, none⟩ = some (.pointer (some ⟨q.c, 0, none⟩)) ∧ W.cell? ⟨q.p, 1, none⟩ = some (.pointer (some ⟨q.h, 0, none⟩)) ∧ W.cell? ⟨w.heap.size, 3, none⟩ = some (.string oac) ∧ W.cell? ⟨w.heap.size, 4, none⟩ = some (.string ope) ∧ W.cell? ⟨w.heap.size, 5, none⟩ = some (.int .i64 osm) ∧ W.cell? ⟨w.heap.size, 8, none⟩ = some (.int .i64 ohd)) := fun W hW => by
    have h1 := hbo1.fr hW (fun e => by rcases e with e | e | e; exact hfar _ (Nat.le_refl _) (.inl e); exact hfar _ (Nat.le_refl _) (.inr e); omega)
    have h2 := (hbk.fr hf1 (fun h => h)).fr hW (fun e => by rcases e with e | e | e; exact hmp.1 e.symm; exact hmp.2 e.symm; omega)
    exact ⟨hW, h2.cell 0, h2.cell 1, h1.cell 3, h1.cell 4, h1.cell 5, h1.cell 8⟩
  have HFAR := Lib.hid hfar
  have hw1 : Fr (At3 q.m q.k (w.heap.size + 1)) w1 w1.drew := (Fr.refl _ w1).drew
  clear hf1 hbr hbo1 hbk hfar hmp hlt
  go_region_held3 (fun W => Fr (At3 q.m q.k (w.heap.size + 1)) w1 W ∧ W.cell? ⟨q.p, 0, none⟩ = some (.pointer (some ⟨q.c, 0, none⟩)) ∧ W.cell? ⟨q.p, 1, none⟩ = some (.pointer (some ⟨q.h, 0, none⟩)) ∧ W.cell? ⟨w.heap.size, 3, none⟩ = some (.string oac) ∧ W.cell? ⟨w.heap.size, 4, none⟩ = some (.string ope) ∧ W.cell? ⟨w.heap.size, 5, none⟩ = some (.int .i64 osm) ∧ W.cell? ⟨w.heap.size, 8, none⟩ = some (.int .i64 ohd))
    (first
      | (refine HX.out _ ?_; with_reducible assumption)
      | (refine HX.out _ (Fr.trans ?_ ((fr_set4 _ _ _ _ _ _).mono fun _ _ h => .inr (.inr h))); with_reducible assumption))
    (first
      | (go_at_call 203; (with_reducible refine (HO.out _ (HF1.out.drew)).mono ?_); rintro e u1 ⟨rfl, hb1, hg⟩; have ka1 : Fr (At2 q.m q.k) w1 u1 := Fr.trans (Fr.refl _ w1).drew hg; have hg1 : Fr (At3 q.m q.k (w.heap.size + 1)) w1 u1 := ka1.mono (fun _ _ h => by rcases h with h | h; exact .inl h; exact .inr (.inl h)); clear hg)
      | (go_at_call 197; (with_reducible refine (HAB.out _ hb1).mono ?_); rintro e u2 ⟨rfl, hb2, hg⟩; have ka2 : Fr (At2 q.m q.k) w1 u2 := Fr.trans ka1 hg; have hg2 : Fr (At3 q.m q.k (w.heap.size + 1)) w1 u2 := ka2.mono (fun _ _ h => by rcases h with h | h; exact .inl h; exact .inr (.inl h)); clear hg; have hr2 := HBR.out.fr ka2 (HFAR.out _ (Nat.le_succ _)); have c0 := hr2.cell 0; have c1 := hr2.cell 1; have c2 := hr2.cell 2; have c3 := hr2.cell 3; have f0 := hr2.frozen 0; have f1 := hr2.frozen 1; have f2 := hr2.frozen 2; have f3 := hr2.frozen 3; simp only [List.getElem?_toArray, List.getElem?_cons_zero, List.getElem?_cons_succ] at c0 c1 c2 c3))
  all_goals
    have hd := blk_set4 hr2 (.int .i64 re) (.int .i64 rh) (.int .i64 rs) (.int .i64 rn)
    have HD := Lib.hid (did_of HH.out (Nat.le_succ _) HF1.out ka2 hb2 (fr_set4 u2 (w.heap.size + 1) (.int .i64 re) (.int .i64 rh) (.int .i64 rs) (.int .i64 rn)))
    clear c0 c1 c2 c3 f0 f1 f2 f3 hr2 HX
    generalize (((u2.setCell ⟨w.heap.size + 1, 0, none⟩ (.int .i64 re)).setCell ⟨w.heap.size + 1, 1, none⟩ (.int .i64 rh)).setCell ⟨w.heap.size + 1, 2, none⟩ (.int .i64 rs)).setCell ⟨w.heap.size + 1, 3, none⟩ (.int .i64 rn) = u3 at *
    have d0 := hd.cell 0
    have d1 := hd.cell 1
    have d2 := hd.cell 2
    have d3 := hd.cell 3
    simp only [List.getElem?_toArray, List.getElem?_cons_zero, List.getElem?_cons_succ] at d0 d1 d2 d3
    go_wp2
    refine bodyPost_ret (v := .agg #[.int .i64 re, .int .i64 rh, .int .i64 rs, .int .i64 rn]) (by simp [results, Tryz.results152, go_sem, d0, d1, d2, d3]) rfl ?_
    exact ⟨rfl, HD.out⟩
set_option maxRecDepth 100000 in
set_option maxHeartbeats 2000000 in
theorem brelease_any (q : Pl) (b : Bk) (o : Od) (v : Value) (w : World) (h : BkS w q b) (ho : o.ok) (hr : rightO o = true) (hk : o.kd = 5) :
    Calls Tryz.prog 153 #[.pointer (some ⟨q.p, 0, none⟩), o.val v] w (DidB q (effR b o) (effB b o) w) := by
  have hI := eff_inv h.inv ho hr
  have eB : effB b o = ⟨freeSS b.S b.H o.an o.hold, freeHH b.S b.H o.an o.hold, b.cl⟩ := by unfold effB; rw [if_neg (show ¬ o.kd = 1 by omega), if_neg (show ¬ o.kd = 2 by omega), if_neg (show ¬ o.kd = 3 by omega), if_neg (show ¬ o.kd = 4 by omega), if_pos hk]
  have eR : effR b o = aboutR (freeSS b.S b.H o.an o.hold) o.an (freeE b.S b.H o.an o.hold) := by unfold effR; rw [if_neg (show ¬ o.kd = 1 by omega), if_neg (show ¬ o.kd = 2 by omega), if_neg (show ¬ o.kd = 3 by omega), if_neg (show ¬ o.kd = 4 by omega), if_pos hk]
  rw [eB] at hI
  rw [eB, eR]
  obtain ⟨-, -, -, hac, hpe, hsm, hpr, hhd, -⟩ := ho
  clear eB eR hr
  obtain ⟨ocl, osq, okd, oac, ope, osm, olg, opr, ohd, ont⟩ := o
  unfold Od.val Od.cs Od.an at *
  simp only at hac hpe hsm hpr hhd hI ⊢
  clear hk
  have HH := Lib.hid h
  have HI := Lib.hid hI
  have HO : Hid (∀ W, Fr No w W → Calls Tryz.prog 204 #[.pointer (some ⟨q.h, 0, none⟩), .pointer (some ⟨q.c, 0, none⟩), .string oac, .int .i64 ohd] W fun e w' => e = .returned (.int .i64 (freeE b.S b.H oac.data.toList ohd)) ∧ BkS w' q ⟨freeSS b.S b.H oac.data.toList ohd, freeHH b.S b.H oac.data.toList ohd, b.cl⟩ ∧ Fr (At2 q.m q.k) W w') := fun W hW =>
    (free_any q.c q.m q.h q.k b.S b.H oac ohd W (h.ch.no hW) h.inv.st.kp.inv (h.hd.no hW) h.inv.st.pos (by have := h.inv.st.len; omega) h.ne hac hhd).mono fun e w' hx => ⟨hx.ret, (h.no hW).both hx hI, hx.fr⟩
  generalize freeE b.S b.H oac.data.toList ohd = E at *
  generalize freeSS b.S b.H oac.data.toList ohd = T at *
  generalize freeHH b.S b.H oac.data.toList ohd = T2 at *
  obtain ⟨re, rh, rs, rn, hR⟩ : ∃ a b c d, aboutR T oac.data.toList E = ⟨a, b, c, d⟩ := ⟨_, _, _, _, rfl⟩
  have HAB : Hid (∀ W, BkS W q ⟨T, T2, b.cl⟩ → Calls Tryz.prog 197 #[.pointer (some ⟨q.p, 0, none⟩), .string oac, .int .i64 E] W fun e w' => e = .returned (.agg #[.int .i64 re, .int .i64 rh, .int .i64 rs, .int .i64 rn]) ∧ BkS w' q ⟨T, T2, b.cl⟩ ∧ Fr (At2 q.m q.k) W w') := fun W hW => by
    have hx := about_any q ⟨T, T2, b.cl⟩ oac E W hW hac
    rw [hR] at hx
    exact hx.mono fun e w' h => ⟨h.1, h.2.1, h.2.2.mono fun _ _ h => .inl h⟩
  rw [hR]
  have hfar : ∀ g, w.heap.size ≤ g → ¬ At2 q.m q.k g := fun g hg e => Pl.far h hg (by rcases e with e | e; exact .inr (.inl e); exact .inr (.inr e))
  have hbk := h.blk
  have hbo := Blk.new w 35 #[.int .i64 ocl, .int .i64 osq, .int .i64 okd, .string oac, .string ope, .int .i64 osm, v, .int .i64 opr, .int .i64 ohd, .string ont]
  have hbr := Blk.new (w.alloc (.cells #[.int .i64 ocl, .int .i64 osq, .int .i64 okd, .string oac, .string ope, .int .i64 osm, v, .int .i64 opr, .int .i64 ohd, .string ont] 35)) 50 #[.int .i64 0, .int .i64 0, .int .i64 0, .int .i64 0]
  rw [World.size_alloc] at hbr
  have hbo1 := hbo.alloc (.cells #[.int .i64 0, .int .i64 0, .int .i64 0, .int .i64 0] 50)
  have hf1 : Fr No w ((w.alloc (.cells #[.int .i64 ocl, .int .i64 osq, .int .i64 okd, .string oac, .string ope, .int .i64 osm, v, .int .i64 opr, .int .i64 ohd, .string ont] 35)).alloc (.cells #[.int .i64 0, .int .i64 0, .int .i64 0, .int .i64 0] 50)) := ((Fr.refl _ _).alloc _).alloc _
  have hmp := h.mp
  have hlt : q.p < w.heap.size := h.blk.lt
  clear h hI hR hac hsm hpe hpr hhd hbo
  go_enter Tryz.func153, Tryz.ntmps153
  go_upto_region 1 with (fail)
  generalize ((w.alloc (.cells #[.int .i64 ocl, .int .i64 osq, .int .i64 okd, .string oac, .string ope, .int .i64 osm, v, .int .i64 opr, .int .i64 ohd, .string ont] 35)).alloc (.cells #[.int .i64 0, .int .i64 0, .int .i64 0, .int .i64 0] 50)) = w1 at *
  have HF1 := Lib.hid hf1
  have HBR := Lib.hid hbr
  have HX : Hid (∀ W, Fr (At3 q.m q.k (w.heap.size + 1)) w1 W → Fr (At3 q.m q.k (w.heap.size + 1)) w1 W ∧ W.cell? ⟨q.p, 0, none⟩ = some (.pointer (some ⟨q.c, 0, none⟩)) ∧ W.cell? ⟨q.p, 1, none⟩ = some (.pointer (some ⟨q.h, 0, none⟩)) ∧ W.cell? ⟨w.heap.size, 3, none⟩ = some (.string oac) ∧ W.cell? ⟨w.heap.size, 8, none⟩ = some (.int .i64 ohd)) := fun W hW => by
    have h1 := hbo1.fr hW (fun e => by rcases e with e | e | e; exact hfar _ (Nat.le_refl _) (.inl e); exact hfar _ (Nat.le_refl _) (.inr e); omega)
    have h2 := (hbk.fr hf1 (fun h => h)).fr hW (fun e => by rcases e with e | e | e; exact hmp.1 e.symm; exact hmp.2 e.symm; omega)
    exact ⟨hW, h2.cell 0, h2.cell 1, h1.cell 3, h1.cell 8⟩
  have HFAR := Lib.hid hfar
  have hw1 : Fr (At3 q.m q.k (w.heap.size + 1)) w1 w1.drew := (Fr.refl _ w1).drew
  clear hf1 hbr hbo1 hbk hfar hmp hlt
  go_region_held3 (fun W => Fr (At3 q.m q.k (w.heap.size + 1)) w1 W ∧ W.cell? ⟨q.p, 0, none⟩ = some (.pointer (some ⟨q.c, 0, none⟩)) ∧ W.cell? ⟨q.p, 1, none⟩ = some (.pointer (some ⟨q.h, 0, none⟩)) ∧ W.cell? ⟨w.heap.size, 3, none⟩ = some (.string oac) ∧ W.cell? ⟨w.heap.size, 8, none⟩ = some (.int .i64 ohd))
    (first
      | (refine HX.out _ ?_; with_reducible assumption)
      | (refine HX.out _ (Fr.trans ?_ ((fr_set4 _ _ _ _ _ _).mono fun _ _ h => .inr (.inr h))); with_reducible assumption))
    (first
      | (go_at_call 204; (with_reducible refine (HO.out _ (HF1.out.drew)).mono ?_); rintro e u1 ⟨rfl, hb1, hg⟩; have ka1 : Fr (At2 q.m q.k) w1 u1 := Fr.trans (Fr.refl _ w1).drew hg; have hg1 : Fr (At3 q.m q.k (w.heap.size + 1)) w1 u1 := ka1.mono (fun _ _ h => by rcases h with h | h; exact .inl h; exact .inr (.inl h)); clear hg)
      | (go_at_call 197; (with_reducible refine (HAB.out _ hb1).mono ?_); rintro e u2 ⟨rfl, hb2, hg⟩; have ka2 : Fr (At2 q.m q.k) w1 u2 := Fr.trans ka1 hg; have hg2 : Fr (At3 q.m q.k (w.heap.size + 1)) w1 u2 := ka2.mono (fun _ _ h => by rcases h with h | h; exact .inl h; exact .inr (.inl h)); clear hg; have hr2 := HBR.out.fr ka2 (HFAR.out _ (Nat.le_succ _)); have c0 := hr2.cell 0; have c1 := hr2.cell 1; have c2 := hr2.cell 2; have c3 := hr2.cell 3; have f0 := hr2.frozen 0; have f1 := hr2.frozen 1; have f2 := hr2.frozen 2; have f3 := hr2.frozen 3; simp only [List.getElem?_toArray, List.getElem?_cons_zero, List.getElem?_cons_succ] at c0 c1 c2 c3))
  all_goals
    have hd := blk_set4 hr2 (.int .i64 re) (.int .i64 rh) (.int .i64 rs) (.int .i64 rn)
    have HD := Lib.hid (did_of HH.out (Nat.le_succ _) HF1.out ka2 hb2 (fr_set4 u2 (w.heap.size + 1) (.int .i64 re) (.int .i64 rh) (.int .i64 rs) (.int .i64 rn)))
    clear c0 c1 c2 c3 f0 f1 f2 f3 hr2 HX
    generalize (((u2.setCell ⟨w.heap.size + 1, 0, none⟩ (.int .i64 re)).setCell ⟨w.heap.size + 1, 1, none⟩ (.int .i64 rh)).setCell ⟨w.heap.size + 1, 2, none⟩ (.int .i64 rs)).setCell ⟨w.heap.size + 1, 3, none⟩ (.int .i64 rn) = u3 at *
    have d0 := hd.cell 0
    have d1 := hd.cell 1
    have d2 := hd.cell 2
    have d3 := hd.cell 3
    simp only [List.getElem?_toArray, List.getElem?_cons_zero, List.getElem?_cons_succ] at d0 d1 d2 d3
    go_wp2
    refine bodyPost_ret (v := .agg #[.int .i64 re, .int .i64 rh, .int .i64 rs, .int .i64 rn]) (by simp [results, Tryz.results153, go_sem, d0, d1, d2, d3]) rfl ?_
    exact ⟨rfl, HD.out⟩
set_option maxRecDepth 100000 in
set_option maxHeartbeats 2000000 in
theorem bpost_any (q : Pl) (b : Bk) (o : Od) (v : Value) (w : World) (h : BkS w q b) (ho : o.ok) (hr : rightO o = true) (hk : o.kd = 2) (F : Nat → Prop) (hv : LgS w F v o.legs) (hF : ∀ k, F k → k < w.heap.size ∧ k ≠ q.m) (hll : o.legs.length ≤ 100) (hcl : ¬ o.per ≤ b.cl) :
    Calls Tryz.prog 150 #[.pointer (some ⟨q.p, 0, none⟩), o.val v] w (DidB q (effR b o) (effB b o) w) := by
  have hI := eff_inv h.inv ho hr
  have eB : effB b o = ⟨makeS b.S o.legs, b.H, b.cl⟩ := by unfold effB; rw [if_neg (show ¬ o.kd = 1 by omega), if_pos hk, if_neg hcl]
  have eR : effR b o = errR (checkE b.S o.legs) := by unfold effR; rw [if_neg (show ¬ o.kd = 1 by omega), if_pos hk, if_neg hcl]
  rw [eB] at hI
  rw [eB, eR]
  obtain ⟨-, -, -, hac, hpe, hsm, hpr, hhd, -⟩ := ho
  clear eB eR hr
  obtain ⟨ocl, osq, okd, oac, ope, osm, olg, opr, ohd, ont⟩ := o
  unfold Od.val Od.cs at *
  simp only at hac hpe hsm hpr hhd hI hcl hv hll ⊢
  clear hk
  have HH := Lib.hid h
  have HI := Lib.hid hI
  have HO : Hid (∀ W, Fr No w W → Calls Tryz.prog 200 #[.pointer (some ⟨q.c, 0, none⟩), v] W fun e w' => e = .returned (.int .i64 (checkE b.S olg)) ∧ BkS w' q ⟨makeS b.S olg, b.H, b.cl⟩ ∧ Fr (At2 q.m q.k) W w') := fun W hW =>
    by
    obtain ⟨A, c, cells, rfl, hrd, hE, h1, h2⟩ := hv.no hW
    exact (make_any q.c q.m b.S F A c cells olg W (h.ch.no hW) h.inv.st.kp.inv hrd (fun k hk => ⟨Nat.lt_of_lt_of_le (hF k hk).1 hW.size, (hF k hk).2⟩) hE hll).mono fun e w' hx => ⟨hx.1, (h.no hW).chart hx.2.1 hx.2.2 hI, hx.2.2.mono fun _ _ h => .inl h⟩
  generalize checkE b.S olg = E at *
  generalize makeS b.S olg = T at *
  have hfar : ∀ g, w.heap.size ≤ g → ¬ At2 q.m q.k g := fun g hg e => Pl.far h hg (by rcases e with e | e; exact .inr (.inl e); exact .inr (.inr e))
  have hbk := h.blk
  have hbo := Blk.new w 35 #[.int .i64 ocl, .int .i64 osq, .int .i64 okd, .string oac, .string ope, .int .i64 osm, v, .int .i64 opr, .int .i64 ohd, .string ont]
  have hbr := Blk.new (w.alloc (.cells #[.int .i64 ocl, .int .i64 osq, .int .i64 okd, .string oac, .string ope, .int .i64 osm, v, .int .i64 opr, .int .i64 ohd, .string ont] 35)) 50 #[.int .i64 0, .int .i64 0, .int .i64 0, .int .i64 0]
  rw [World.size_alloc] at hbr
  have hbo1 := hbo.alloc (.cells #[.int .i64 0, .int .i64 0, .int .i64 0, .int .i64 0] 50)
  have hf1 : Fr No w ((w.alloc (.cells #[.int .i64 ocl, .int .i64 osq, .int .i64 okd, .string oac, .string ope, .int .i64 osm, v, .int .i64 opr, .int .i64 ohd, .string ont] 35)).alloc (.cells #[.int .i64 0, .int .i64 0, .int .i64 0, .int .i64 0] 50)) := ((Fr.refl _ _).alloc _).alloc _
  have hmp := h.mp
  have hlt : q.p < w.heap.size := h.blk.lt
  have HCL : Hid (∀ W, Fr No w W → Calls Tryz.prog 199 #[.pointer (some ⟨q.p, 0, none⟩), .int .i64 opr] W fun e w' => e = .returned (.bool false) ∧ W = w') := fun W hW => by
    have hx := isClosed_any q b opr W (h.no hW)
    rw [decide_eq_false hcl] at hx
    exact hx
  clear hcl
  have o7 := hbo1.cell 7
  simp only [List.getElem?_toArray, List.getElem?_cons_zero, List.getElem?_cons_succ] at o7
  clear h hI hac hsm hpe hpr hhd hbo hv hF hll
  go_enter Tryz.func150, Tryz.ntmps150
  go_wp2_with fail
  (with_reducible refine (HCL.out _ (((Fr.refl _ _).alloc _).alloc _)).mono ?_)
  rintro e w0 ⟨rfl, rfl⟩
  clear HCL o7
  go_upto_region 3 with (fail)
  generalize ((w.alloc (.cells #[.int .i64 ocl, .int .i64 osq, .int .i64 okd, .string oac, .string ope, .int .i64 osm, v, .int .i64 opr, .int .i64 ohd, .string ont] 35)).alloc (.cells #[.int .i64 0, .int .i64 0, .int .i64 0, .int .i64 0] 50)) = w1 at *
  have HF1 := Lib.hid hf1
  have HBR := Lib.hid hbr
  have HX : Hid (∀ W, Fr (At3 q.m q.k (w.heap.size + 1)) w1 W → Fr (At3 q.m q.k (w.heap.size + 1)) w1 W ∧ W.cell? ⟨q.p, 0, none⟩ = some (.pointer (some ⟨q.c, 0, none⟩)) ∧ W.cell? ⟨q.p, 1, none⟩ = some (.pointer (some ⟨q.h, 0, none⟩)) ∧ W.cell? ⟨w.heap.size, 6, none⟩ = some (v)) := fun W hW => by
    have h1 := hbo1.fr hW (fun e => by rcases e with e | e | e; exact hfar _ (Nat.le_refl _) (.inl e); exact hfar _ (Nat.le_refl _) (.inr e); omega)
    have h2 := (hbk.fr hf1 (fun h => h)).fr hW (fun e => by rcases e with e | e | e; exact hmp.1 e.symm; exact hmp.2 e.symm; omega)
    exact ⟨hW, h2.cell 0, h2.cell 1, h1.cell 6⟩
  have HFAR := Lib.hid hfar
  have hw1 : Fr (At3 q.m q.k (w.heap.size + 1)) w1 w1.drew := (Fr.refl _ w1).drew
  clear hf1 hbr hbo1 hbk hfar hmp hlt
  go_region_held3 (fun W => Fr (At3 q.m q.k (w.heap.size + 1)) w1 W ∧ W.cell? ⟨q.p, 0, none⟩ = some (.pointer (some ⟨q.c, 0, none⟩)) ∧ W.cell? ⟨q.p, 1, none⟩ = some (.pointer (some ⟨q.h, 0, none⟩)) ∧ W.cell? ⟨w.heap.size, 6, none⟩ = some (v))
    (first
      | (refine HX.out _ ?_; with_reducible assumption)
      | (refine HX.out _ (Fr.trans ?_ ((fr_set4 _ _ _ _ _ _).mono fun _ _ h => .inr (.inr h))); with_reducible assumption))
    (first
      | (go_at_call 200; (with_reducible refine (HO.out _ (HF1.out.drew)).mono ?_); rintro e u2 ⟨rfl, hb2, hg⟩; have ka2 : Fr (At2 q.m q.k) w1 u2 := Fr.trans (Fr.refl _ w1).drew hg; have hg2 : Fr (At3 q.m q.k (w.heap.size + 1)) w1 u2 := ka2.mono (fun _ _ h => by rcases h with h | h; exact .inl h; exact .inr (.inl h)); clear hg; have hr2 := HBR.out.fr ka2 (HFAR.out _ (Nat.le_succ _)); have c0 := hr2.cell 0; have c1 := hr2.cell 1; have c2 := hr2.cell 2; have c3 := hr2.cell 3; have f0 := hr2.frozen 0; have f1 := hr2.frozen 1; have f2 := hr2.frozen 2; have f3 := hr2.frozen 3; simp only [List.getElem?_toArray, List.getElem?_cons_zero, List.getElem?_cons_succ] at c0 c1 c2 c3))
  all_goals
    have hd := blk_set4 hr2 (.int .i64 E) (.int .i64 0) (.int .i64 0) (.int .i64 0)
    have HD := Lib.hid (did_of HH.out (Nat.le_succ _) HF1.out ka2 hb2 (fr_set4 u2 (w.heap.size + 1) (.int .i64 E) (.int .i64 0) (.int .i64 0) (.int .i64 0)))
    clear c0 c1 c2 c3 f0 f1 f2 f3 hr2 HX
    generalize (((u2.setCell ⟨w.heap.size + 1, 0, none⟩ (.int .i64 E)).setCell ⟨w.heap.size + 1, 1, none⟩ (.int .i64 0)).setCell ⟨w.heap.size + 1, 2, none⟩ (.int .i64 0)).setCell ⟨w.heap.size + 1, 3, none⟩ (.int .i64 0) = u3 at *
    have d0 := hd.cell 0
    have d1 := hd.cell 1
    have d2 := hd.cell 2
    have d3 := hd.cell 3
    simp only [List.getElem?_toArray, List.getElem?_cons_zero, List.getElem?_cons_succ] at d0 d1 d2 d3
    go_wp2
    refine bodyPost_ret (v := .agg #[.int .i64 E, .int .i64 0, .int .i64 0, .int .i64 0]) (by simp [results, Tryz.results150, go_sem, d0, d1, d2, d3]) rfl ?_
    exact ⟨rfl, HD.out⟩
set_option maxRecDepth 100000 in
set_option maxHeartbeats 2000000 in
theorem bpost_closed (q : Pl) (b : Bk) (o : Od) (v : Value) (w : World) (h : BkS w q b) (hk : o.kd = 2) (hcl : o.per ≤ b.cl) :
    Calls Tryz.prog 150 #[.pointer (some ⟨q.p, 0, none⟩), o.val v] w (DidB q (effR b o) (effB b o) w) := by
  have eB : effB b o = b := by unfold effB; rw [if_neg (show ¬ o.kd = 1 by omega), if_pos hk, if_pos hcl]
  have eR : effR b o = errR 10 := by unfold effR; rw [if_neg (show ¬ o.kd = 1 by omega), if_pos hk, if_pos hcl]
  rw [eB, eR]
  clear eB eR hk
  obtain ⟨ocl, osq, okd, oac, ope, osm, olg, opr, ohd, ont⟩ := o
  unfold Od.val Od.cs at *
  simp only at hcl ⊢
  have HH := Lib.hid h
  have HCL : Hid (∀ W, Fr No w W → Calls Tryz.prog 199 #[.pointer (some ⟨q.p, 0, none⟩), .int .i64 opr] W fun e w' => e = .returned (.bool true) ∧ W = w') := fun W hW => by
    have hx := isClosed_any q b opr W (h.no hW)
    rw [decide_eq_true hcl] at hx
    exact hx
  have hbo := Blk.new w 35 #[.int .i64 ocl, .int .i64 osq, .int .i64 okd, .string oac, .string ope, .int .i64 osm, v, .int .i64 opr, .int .i64 ohd, .string ont]
  have hbr := Blk.new (w.alloc (.cells #[.int .i64 ocl, .int .i64 osq, .int .i64 okd, .string oac, .string ope, .int .i64 osm, v, .int .i64 opr, .int .i64 ohd, .string ont] 35)) 50 #[.int .i64 10, .int .i64 0, .int .i64 0, .int .i64 0]
  rw [World.size_alloc] at hbr
  have hbo1 := hbo.alloc (.cells #[.int .i64 0, .int .i64 0, .int .i64 0, .int .i64 0] 50)
  have o7 := hbo1.cell 7
  simp only [List.getElem?_toArray, List.getElem?_cons_zero, List.getElem?_cons_succ] at o7
  clear h hcl hbo hbo1
  go_enter Tryz.func150, Tryz.ntmps150
  go_wp2_with fail
  (with_reducible refine (HCL.out _ (((Fr.refl _ _).alloc _).alloc _)).mono ?_)
  rintro e w0 ⟨rfl, rfl⟩
  clear HCL o7
  have d0 := hbr.cell 0
  have d1 := hbr.cell 1
  have d2 := hbr.cell 2
  have d3 := hbr.cell 3
  simp only [List.getElem?_toArray, List.getElem?_cons_zero, List.getElem?_cons_succ] at d0 d1 d2 d3
  clear hbr
  go_wp2
  refine bodyPost_ret (v := .agg #[.int .i64 10, .int .i64 0, .int .i64 0, .int .i64 0]) (by simp [results, Tryz.results150, go_sem, d0, d1, d2, d3]) rfl ?_
  exact ⟨rfl, HH.out.no (((Fr.refl _ _).alloc _).alloc _), ((Fr.refl _ _).alloc _).alloc _⟩
set_option maxRecDepth 100000 in
set_option maxHeartbeats 2000000 in
theorem bcapture_closed (q : Pl) (b : Bk) (o : Od) (v : Value) (w : World) (h : BkS w q b) (hk : o.kd = 4) (hcl : o.per ≤ b.cl) :
    Calls Tryz.prog 152 #[.pointer (some ⟨q.p, 0, none⟩), o.val v] w (DidB q (effR b o) (effB b o) w) := by
  have eB : effB b o = b := by unfold effB; rw [if_neg (show ¬ o.kd = 1 by omega), if_neg (show ¬ o.kd = 2 by omega), if_neg (show ¬ o.kd = 3 by omega), if_pos hk, if_pos hcl]
  have eR : effR b o = errR 10 := by unfold effR; rw [if_neg (show ¬ o.kd = 1 by omega), if_neg (show ¬ o.kd = 2 by omega), if_neg (show ¬ o.kd = 3 by omega), if_pos hk, if_pos hcl]
  rw [eB, eR]
  clear eB eR hk
  obtain ⟨ocl, osq, okd, oac, ope, osm, olg, opr, ohd, ont⟩ := o
  unfold Od.val Od.cs at *
  simp only at hcl ⊢
  have HH := Lib.hid h
  have HCL : Hid (∀ W, Fr No w W → Calls Tryz.prog 199 #[.pointer (some ⟨q.p, 0, none⟩), .int .i64 opr] W fun e w' => e = .returned (.bool true) ∧ W = w') := fun W hW => by
    have hx := isClosed_any q b opr W (h.no hW)
    rw [decide_eq_true hcl] at hx
    exact hx
  have hbo := Blk.new w 35 #[.int .i64 ocl, .int .i64 osq, .int .i64 okd, .string oac, .string ope, .int .i64 osm, v, .int .i64 opr, .int .i64 ohd, .string ont]
  have hbr := Blk.new (w.alloc (.cells #[.int .i64 ocl, .int .i64 osq, .int .i64 okd, .string oac, .string ope, .int .i64 osm, v, .int .i64 opr, .int .i64 ohd, .string ont] 35)) 50 #[.int .i64 10, .int .i64 0, .int .i64 0, .int .i64 0]
  rw [World.size_alloc] at hbr
  have hbo1 := hbo.alloc (.cells #[.int .i64 0, .int .i64 0, .int .i64 0, .int .i64 0] 50)
  have o7 := hbo1.cell 7
  simp only [List.getElem?_toArray, List.getElem?_cons_zero, List.getElem?_cons_succ] at o7
  clear h hcl hbo hbo1
  go_enter Tryz.func152, Tryz.ntmps152
  go_wp2_with fail
  (with_reducible refine (HCL.out _ (((Fr.refl _ _).alloc _).alloc _)).mono ?_)
  rintro e w0 ⟨rfl, rfl⟩
  clear HCL o7
  have d0 := hbr.cell 0
  have d1 := hbr.cell 1
  have d2 := hbr.cell 2
  have d3 := hbr.cell 3
  simp only [List.getElem?_toArray, List.getElem?_cons_zero, List.getElem?_cons_succ] at d0 d1 d2 d3
  clear hbr
  go_wp2
  refine bodyPost_ret (v := .agg #[.int .i64 10, .int .i64 0, .int .i64 0, .int .i64 0]) (by simp [results, Tryz.results152, go_sem, d0, d1, d2, d3]) rfl ?_
  exact ⟨rfl, HH.out.no (((Fr.refl _ _).alloc _).alloc _), ((Fr.refl _ _).alloc _).alloc _⟩
set_option maxRecDepth 100000 in
set_option maxHeartbeats 2000000 in
theorem bclose_closed (q : Pl) (b : Bk) (o : Od) (v : Value) (w : World) (h : BkS w q b) (hk : o.kd = 6) (hcl : o.per ≤ b.cl) :
    Calls Tryz.prog 154 #[.pointer (some ⟨q.p, 0, none⟩), o.val v] w (DidB q (effR b o) (effB b o) w) := by
  have eB : effB b o = b := by unfold effB; rw [if_neg (show ¬ o.kd = 1 by omega), if_neg (show ¬ o.kd = 2 by omega), if_neg (show ¬ o.kd = 3 by omega), if_neg (show ¬ o.kd = 4 by omega), if_neg (show ¬ o.kd = 5 by omega), if_pos hk, if_pos hcl]
  have eR : effR b o = errR 10 := by unfold effR; rw [if_neg (show ¬ o.kd = 1 by omega), if_neg (show ¬ o.kd = 2 by omega), if_neg (show ¬ o.kd = 3 by omega), if_neg (show ¬ o.kd = 4 by omega), if_neg (show ¬ o.kd = 5 by omega), if_pos hk, if_pos hcl]
  rw [eB, eR]
  clear eB eR hk
  obtain ⟨ocl, osq, okd, oac, ope, osm, olg, opr, ohd, ont⟩ := o
  unfold Od.val Od.cs at *
  simp only at hcl ⊢
  have HH := Lib.hid h
  have HCL : Hid (∀ W, Fr No w W → Calls Tryz.prog 199 #[.pointer (some ⟨q.p, 0, none⟩), .int .i64 opr] W fun e w' => e = .returned (.bool true) ∧ W = w') := fun W hW => by
    have hx := isClosed_any q b opr W (h.no hW)
    rw [decide_eq_true hcl] at hx
    exact hx
  have hbo := Blk.new w 35 #[.int .i64 ocl, .int .i64 osq, .int .i64 okd, .string oac, .string ope, .int .i64 osm, v, .int .i64 opr, .int .i64 ohd, .string ont]
  have hbr := Blk.new (w.alloc (.cells #[.int .i64 ocl, .int .i64 osq, .int .i64 okd, .string oac, .string ope, .int .i64 osm, v, .int .i64 opr, .int .i64 ohd, .string ont] 35)) 50 #[.int .i64 10, .int .i64 0, .int .i64 0, .int .i64 0]
  rw [World.size_alloc] at hbr
  have hbo1 := hbo.alloc (.cells #[.int .i64 0, .int .i64 0, .int .i64 0, .int .i64 0] 50)
  have o7 := hbo1.cell 7
  simp only [List.getElem?_toArray, List.getElem?_cons_zero, List.getElem?_cons_succ] at o7
  clear h hcl hbo hbo1
  go_enter Tryz.func154, Tryz.ntmps154
  go_wp2_with fail
  (with_reducible refine (HCL.out _ (((Fr.refl _ _).alloc _).alloc _)).mono ?_)
  rintro e w0 ⟨rfl, rfl⟩
  clear HCL o7
  have d0 := hbr.cell 0
  have d1 := hbr.cell 1
  have d2 := hbr.cell 2
  have d3 := hbr.cell 3
  simp only [List.getElem?_toArray, List.getElem?_cons_zero, List.getElem?_cons_succ] at d0 d1 d2 d3
  clear hbr
  go_wp2
  refine bodyPost_ret (v := .agg #[.int .i64 10, .int .i64 0, .int .i64 0, .int .i64 0]) (by simp [results, Tryz.results154, go_sem, d0, d1, d2, d3]) rfl ?_
  exact ⟨rfl, HH.out.no (((Fr.refl _ _).alloc _).alloc _), ((Fr.refl _ _).alloc _).alloc _⟩
set_option maxRecDepth 100000 in
set_option maxHeartbeats 2000000 in
theorem bask_any (q : Pl) (b : Bk) (o : Od) (v : Value) (w : World) (h : BkS w q b) (ho : o.ok) (hk : o.kd = 7) :
    Calls Tryz.prog 155 #[.pointer (some ⟨q.p, 0, none⟩), o.val v] w (DidB q (effR b o) (effB b o) w) := by
  have eB : effB b o = b := by unfold effB; rw [if_neg (show ¬ o.kd = 1 by omega), if_neg (show ¬ o.kd = 2 by omega), if_neg (show ¬ o.kd = 3 by omega), if_neg (show ¬ o.kd = 4 by omega), if_neg (show ¬ o.kd = 5 by omega), if_neg (show ¬ o.kd = 6 by omega)]
  have eR : effR b o = aboutR b.S o.an 0 := by unfold effR; rw [if_neg (show ¬ o.kd = 1 by omega), if_neg (show ¬ o.kd = 2 by omega), if_neg (show ¬ o.kd = 3 by omega), if_neg (show ¬ o.kd = 4 by omega), if_neg (show ¬ o.kd = 5 by omega), if_neg (show ¬ o.kd = 6 by omega)]
  rw [eB, eR]
  obtain ⟨-, -, -, hac, -⟩ := ho
  clear eB eR hk
  obtain ⟨ocl, osq, okd, oac, ope, osm, olg, opr, ohd, ont⟩ := o
  unfold Od.val Od.cs Od.an at *
  simp only at hac ⊢
  obtain ⟨re, rh, rs, rn, hR⟩ : ∃ a b' c d, aboutR b.S oac.data.toList 0 = ⟨a, b', c, d⟩ := ⟨_, _, _, _, rfl⟩
  have HAB : Hid (∀ W, Fr No w W → Calls Tryz.prog 197 #[.pointer (some ⟨q.p, 0, none⟩), .string oac, .int .i64 0] W fun e w' => e = .returned (.agg #[.int .i64 re, .int .i64 rh, .int .i64 rs, .int .i64 rn]) ∧ BkS w' q b ∧ Fr (At1 q.m) W w') := fun W hW => by
    have hx := about_any q b oac 0 W (h.no hW) hac
    rw [hR] at hx
    exact hx
  rw [hR]
  have HH := Lib.hid h
  have hml := h.ch.2.lt
  have hbo := Blk.new w 35 #[.int .i64 ocl, .int .i64 osq, .int .i64 okd, .string oac, .string ope, .int .i64 osm, v, .int .i64 opr, .int .i64 ohd, .string ont]
  have hbr := Blk.new (w.alloc (.cells #[.int .i64 ocl, .int .i64 osq, .int .i64 okd, .string oac, .string ope, .int .i64 osm, v, .int .i64 opr, .int .i64 ohd, .string ont] 35)) 50 #[.int .i64 0, .int .i64 0, .int .i64 0, .int .i64 0]
  rw [World.size_alloc] at hbr
  have hbo1 := hbo.alloc (.cells #[.int .i64 0, .int .i64 0, .int .i64 0, .int .i64 0] 50)
  have hf1 : Fr No w ((w.alloc (.cells #[.int .i64 ocl, .int .i64 osq, .int .i64 okd, .string oac, .string ope, .int .i64 osm, v, .int .i64 opr, .int .i64 ohd, .string ont] 35)).alloc (.cells #[.int .i64 0, .int .i64 0, .int .i64 0, .int .i64 0] 50)) := ((Fr.refl _ _).alloc _).alloc _
  have o3 := hbo1.cell 3
  simp only [List.getElem?_toArray, List.getElem?_cons_zero, List.getElem?_cons_succ] at o3
  clear h hbo hbo1 hac hR
  go_enter Tryz.func155, Tryz.ntmps155
  go_wp2_with fail
  (with_reducible refine (HAB.out _ (((Fr.refl _ _).alloc _).alloc _)).mono ?_)
  generalize ((w.alloc (.cells #[.int .i64 ocl, .int .i64 osq, .int .i64 okd, .string oac, .string ope, .int .i64 osm, v, .int .i64 opr, .int .i64 ohd, .string ont] 35)).alloc (.cells #[.int .i64 0, .int .i64 0, .int .i64 0, .int .i64 0] 50)) = w1 at *
  rintro e u2 ⟨rfl, hb2, hg⟩
  have hr2 := hbr.fr hg (fun e => by have : w.heap.size + 1 = q.m := e; omega)
  have hd := blk_set4 hr2 (.int .i64 re) (.int .i64 rh) (.int .i64 rs) (.int .i64 rn)
  have HD := Lib.hid (did_of HH.out (Nat.le_succ _) hf1 (hg.mono fun _ _ h => .inl h) hb2 (fr_set4 u2 (w.heap.size + 1) (.int .i64 re) (.int .i64 rh) (.int .i64 rs) (.int .i64 rn)))
  have HDD := Lib.hid hd
  have c0 := hr2.cell 0
  have c1 := hr2.cell 1
  have c2 := hr2.cell 2
  have c3 := hr2.cell 3
  have f0 := hr2.frozen 0
  have f1 := hr2.frozen 1
  have f2 := hr2.frozen 2
  have f3 := hr2.frozen 3
  simp only [List.getElem?_toArray, List.getElem?_cons_zero, List.getElem?_cons_succ] at c0 c1 c2 c3
  clear HAB o3 hbr hf1 hg hr2 hb2 hd
  go_wp2
  have hd := HDD.out
  have d0 := hd.cell 0
  have d1 := hd.cell 1
  have d2 := hd.cell 2
  have d3 := hd.cell 3
  simp only [List.getElem?_toArray, List.getElem?_cons_zero, List.getElem?_cons_succ] at d0 d1 d2 d3
  refine bodyPost_ret (v := .agg #[.int .i64 re, .int .i64 rh, .int .i64 rs, .int .i64 rn]) (by simp [results, Tryz.results155, go_sem, d0, d1, d2, d3]) rfl ?_
  exact ⟨rfl, HD.out⟩
set_option maxRecDepth 100000 in
set_option maxHeartbeats 2000000 in
theorem bclose_any (q : Pl) (b : Bk) (o : Od) (v : Value) (w : World) (h : BkS w q b) (ho : o.ok) (hr : rightO o = true) (hk : o.kd = 6) (hcl : ¬ o.per ≤ b.cl) :
    Calls Tryz.prog 154 #[.pointer (some ⟨q.p, 0, none⟩), o.val v] w (DidB q (effR b o) (effB b o) w) := by
  have hI := eff_inv h.inv ho hr
  have eB : effB b o = ⟨b.S, b.H, o.per⟩ := by unfold effB; rw [if_neg (show ¬ o.kd = 1 by omega), if_neg (show ¬ o.kd = 2 by omega), if_neg (show ¬ o.kd = 3 by omega), if_neg (show ¬ o.kd = 4 by omega), if_neg (show ¬ o.kd = 5 by omega), if_pos hk, if_neg hcl]
  have eR : effR b o = ⟨0, 0, 0, o.per⟩ := by unfold effR; rw [if_neg (show ¬ o.kd = 1 by omega), if_neg (show ¬ o.kd = 2 by omega), if_neg (show ¬ o.kd = 3 by omega), if_neg (show ¬ o.kd = 4 by omega), if_neg (show ¬ o.kd = 5 by omega), if_pos hk, if_neg hcl]
  rw [eB] at hI
  rw [eB, eR]
  clear eB eR hk hr ho
  obtain ⟨ocl, osq, okd, oac, ope, osm, olg, opr, ohd, ont⟩ := o
  unfold Od.val Od.cs at *
  simp only at hcl hI ⊢
  have HH := Lib.hid h
  have HI := Lib.hid hI
  have HCL : Hid (∀ W, Fr No w W → Calls Tryz.prog 199 #[.pointer (some ⟨q.p, 0, none⟩), .int .i64 opr] W fun e w' => e = .returned (.bool false) ∧ W = w') := fun W hW => by
    have hx := isClosed_any q b opr W (h.no hW)
    rw [decide_eq_false hcl] at hx
    exact hx
  have hbo := Blk.new w 35 #[.int .i64 ocl, .int .i64 osq, .int .i64 okd, .string oac, .string ope, .int .i64 osm, v, .int .i64 opr, .int .i64 ohd, .string ont]
  have hbr := Blk.new (w.alloc (.cells #[.int .i64 ocl, .int .i64 osq, .int .i64 okd, .string oac, .string ope, .int .i64 osm, v, .int .i64 opr, .int .i64 ohd, .string ont] 35)) 50 #[.int .i64 0, .int .i64 0, .int .i64 0, .int .i64 0]
  rw [World.size_alloc] at hbr
  have hbo1 := hbo.alloc (.cells #[.int .i64 0, .int .i64 0, .int .i64 0, .int .i64 0] 50)
  have hf1 : Fr No w ((w.alloc (.cells #[.int .i64 ocl, .int .i64 osq, .int .i64 okd, .string oac, .string ope, .int .i64 osm, v, .int .i64 opr, .int .i64 ohd, .string ont] 35)).alloc (.cells #[.int .i64 0, .int .i64 0, .int .i64 0, .int .i64 0] 50)) := ((Fr.refl _ _).alloc _).alloc _
  have hbk := h.blk.fr hf1 (fun h => h)
  have hpl := h.blk.lt
  clear h hI hcl hbo
  have o7 := hbo1.cell 7
  simp only [List.getElem?_toArray, List.getElem?_cons_zero, List.getElem?_cons_succ] at o7
  go_enter Tryz.func154, Tryz.ntmps154
  go_wp2_with fail
  (with_reducible refine (HCL.out _ (((Fr.refl _ _).alloc _).alloc _)).mono ?_)
  rintro e w0 ⟨rfl, rfl⟩
  generalize ((w.alloc (.cells #[.int .i64 ocl, .int .i64 osq, .int .i64 okd, .string oac, .string ope, .int .i64 osm, v, .int .i64 opr, .int .i64 ohd, .string ont] 35)).alloc (.cells #[.int .i64 0, .int .i64 0, .int .i64 0, .int .i64 0] 50)) = w1 at *
  have b2 := hbk.cell 2
  have fb2 := hbk.frozen 2
  have r0 := hbr.cell 0
  have r1 := hbr.cell 1
  have r2 := hbr.cell 2
  have r3 := hbr.cell 3
  have f0 := hbr.frozen 0
  have f1 := hbr.frozen 1
  have f2 := hbr.frozen 2
  have f3 := hbr.frozen 3
  simp only [List.getElem?_toArray, List.getElem?_cons_zero, List.getElem?_cons_succ] at b2 r0 r1 r2 r3
  have hne : w.heap.size ≠ q.p := by omega
  have hne2 : w.heap.size + 1 ≠ q.p := by omega
  have hA := fr_set w1 q.p 2 (.int .i64 opr)
  have hrA := hbr.fr hA (fun e => hne2 e)
  have hd := blk_set4 hrA (.int .i64 0) (.int .i64 0) (.int .i64 0) (.int .i64 opr)
  have hB := fr_set4 (w1.setCell ⟨q.p, 2, none⟩ (.int .i64 opr)) (w.heap.size + 1) (.int .i64 0) (.int .i64 0) (.int .i64 0) (.int .i64 opr)
  have HBK : Hid (BkS (((((w1.setCell ⟨q.p, 2, none⟩ (.int .i64 opr)).setCell ⟨w.heap.size + 1, 0, none⟩ (.int .i64 0)).setCell ⟨w.heap.size + 1, 1, none⟩ (.int .i64 0)).setCell ⟨w.heap.size + 1, 2, none⟩ (.int .i64 0)).setCell ⟨w.heap.size + 1, 3, none⟩ (.int .i64 opr)) q ⟨b.S, b.H, opr⟩ ∧ Fr q.wr w (((((w1.setCell ⟨q.p, 2, none⟩ (.int .i64 opr)).setCell ⟨w.heap.size + 1, 0, none⟩ (.int .i64 0)).setCell ⟨w.heap.size + 1, 1, none⟩ (.int .i64 0)).setCell ⟨w.heap.size + 1, 2, none⟩ (.int .i64 0)).setCell ⟨w.heap.size + 1, 3, none⟩ (.int .i64 opr))) := by
    have h1 := HH.out.no hf1
    have hA1 : BkS (w1.setCell ⟨q.p, 2, none⟩ (.int .i64 opr)) q ⟨b.S, b.H, opr⟩ :=
      ⟨h1.blk.set_ 2 (.int .i64 opr), h1.ch.fr hA (fun e => Blk.ne_ h1.ch.1 h1.blk (by decide) e) (fun e => h1.mp.1 e), h1.hd.fr hA (fun e => Blk.ne_ h1.hd.1 h1.blk (by decide) e) (fun e => h1.mp.2 e), h1.ne, HI.out⟩
    refine ⟨hA1.fr hB fun i hi e => ?_, ((hf1.mono (T := q.wr) fun _ _ h => False.elim h).trans (hA.mono fun _ _ h => .inl h)).trans' hB fun i hi hlt => ?_⟩
    · have := HH.out.lt i hi
      have : i = w.heap.size + 1 := e
      omega
    · have : i = w.heap.size + 1 := hi
      omega
  have HDD := Lib.hid hd
  have o7b := (hbo1.fr hA (fun e => hne e)).cell 7
  simp only [List.getElem?_toArray, List.getElem?_cons_zero, List.getElem?_cons_succ] at o7b
  clear hA hB hd hrA hbo1 hbk hbr hf1 HCL
  go_wp2
  have hd := HDD.out
  have d0 := hd.cell 0
  have d1 := hd.cell 1
  have d2 := hd.cell 2
  have d3 := hd.cell 3
  simp only [List.getElem?_toArray, List.getElem?_cons_zero, List.getElem?_cons_succ] at d0 d1 d2 d3
  refine bodyPost_ret (v := .agg #[.int .i64 0, .int .i64 0, .int .i64 0, .int .i64 opr]) (by simp [results, Tryz.results154, go_sem, d0, d1, d2, d3]) rfl ?_
  exact ⟨rfl, HBK.out⟩
end Go.Proofs.YtcpgamidimfflaaGreat
