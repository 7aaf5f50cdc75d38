/- A book in memory. Its small functions: New, isClosed, about. What each kind of order does to a book in memory. What a Hold does to a book in memory. What a book does: a table of what each kind of order does; Do. -/
import Derived.Test.YtgklifbfbjdobaaGreatMBM
import Derived.Test.YtgklifbfbjdobaaGreatMO
import Derived.Test.YtgklifbfbjdobaaGreatChartI0
import Derived.Deep.RegionHeld3
import Derived.Deep.DrawnRows
import Derived.Laws.EntriesVeiled
namespace Go.Proofs.YtgklifbfbjdobaaGreat
open Go.RowKit Go.My Go.Maps
set_option linter.unusedSimpArgs false
set_option linter.unusedVariables false
attribute [local go_sem ↓] Go.wp_at_zero Go.wp_at_succ

/-- where a book lies: itself, its chart and the chart's map, its holds and their map -/
structure Pl where
  p : Nat
  c : Nat
  m : Nat
  h : Nat
  k : Nat
def Pl.all (q : Pl) : Nat → Prop := fun i => i = q.p ∨ i = q.c ∨ i = q.m ∨ i = q.h ∨ i = q.k
/-- what is written of it -/
def Pl.wr (q : Pl) : Nat → Prop := fun i => i = q.p ∨ i = q.m ∨ i = q.k
theorem Pl.wr_all {q : Pl} {i : Nat} (h : q.wr i) : q.all i := by
  rcases h with h | h | h
  · exact .inl h
  · exact .inr (.inr (.inl h))
  · exact .inr (.inr (.inr (.inr h)))
structure BkS (w : World) (q : Pl) (b : Bk) : Prop where
  blk : Blk w q.p 61 #[.pointer (some ⟨q.c, 0, none⟩), .pointer (some ⟨q.h, 0, none⟩), .int .i64 b.cl]
  ch : ChS w q.c q.m b.S
  hd : HdS w q.h q.k b.H
  ne : q.k ≠ q.m
  inv : BkI b
section
variable {w w' : World} {q : Pl} {b : Bk}
theorem BkS.fr {F : Nat → Prop} (h : BkS w q b) (hf : Fr F w w') (hn : ∀ i, q.all i → ¬ F i) : BkS w' q b :=
  ⟨h.blk.fr hf (hn _ (.inl rfl)), h.ch.fr hf (hn _ (.inr (.inl rfl))) (hn _ (.inr (.inr (.inl rfl)))), h.hd.fr hf (hn _ (.inr (.inr (.inr (.inl rfl))))) (hn _ (.inr (.inr (.inr (.inr rfl))))), h.ne, h.inv⟩
theorem BkS.no (h : BkS w q b) (hf : Fr No w w') : BkS w' q b := h.fr hf (fun _ _ h => h)
theorem BkS.lt (h : BkS w q b) : ∀ i, q.all i → i < w.heap.size := fun i hi => by
  rcases hi with rfl | rfl | rfl | rfl | rfl
  · exact h.blk.lt
  · exact h.ch.1.lt
  · exact h.ch.2.lt
  · exact h.hd.1.lt
  · exact h.hd.2.lt
theorem BkS.mp (h : BkS w q b) : q.m ≠ q.p ∧ q.k ≠ q.p := ⟨h.ch.2.ne_ h.blk, h.hd.2.ne_ h.blk⟩
/-- what has changed is the chart -/
theorem BkS.chart (h : BkS w q b) {S : List Ac} (hc : ChS w' q.c q.m S) (hf : Fr (At1 q.m) w w') (hi : BkI ⟨S, b.H, b.cl⟩) : BkS w' q ⟨S, b.H, b.cl⟩ :=
  ⟨h.blk.fr hf (fun e => h.mp.1 (show q.p = q.m from e).symm), hc, h.hd.at1 h.ch h.ne hf, h.ne, hi⟩
theorem BkS.chart_same (h : BkS w q b) (hc : ChS w' q.c q.m b.S) (hf : Fr (At1 q.m) w w') : BkS w' q b := h.chart hc hf h.inv
/-- the chart and the holds -/
theorem BkS.both (h : BkS w q b) {n : Int} {S : List Ac} {H : List Hd} {e : Ending} (hr : HRet q.c q.m q.h q.k n S H w e w') (hi : BkI ⟨S, H, b.cl⟩) : BkS w' q ⟨S, H, b.cl⟩ :=
  ⟨h.blk.fr hr.fr (fun e => by rcases e with e | e; exact h.mp.1 e.symm; exact h.mp.2 e.symm), hr.ch, hr.hd, h.ne, hi⟩
theorem Pl.wr_m {q : Pl} (hf : Fr (At1 q.m) w w') : Fr q.wr w w' := hf.mono fun _ _ h => .inr (.inl h)
theorem Pl.wr_mk {q : Pl} (hf : Fr (At2 q.m q.k) w w') : Fr q.wr w w' := hf.mono fun _ _ h => by
  rcases h with h | h
  · exact .inr (.inl h)
  · exact .inr (.inr h)
end
/-- a reply that is stored -/
theorem fr_set4 (w : World) (g : Nat) (a b c d : Value) : Fr (At1 g) w ((((w.setCell ⟨g, 0, none⟩ a).setCell ⟨g, 1, none⟩ b).setCell ⟨g, 2, none⟩ c).setCell ⟨g, 3, none⟩ d) :=
  Fr.setCell (S := At1 g) (p := ⟨g, 3, none⟩) (Fr.setCell (S := At1 g) (p := ⟨g, 2, none⟩) (Fr.setCell (S := At1 g) (p := ⟨g, 1, none⟩) (Fr.setCell (S := At1 g) (p := ⟨g, 0, none⟩) (Fr.refl _ _) (fun _ => rfl) _) (fun _ => rfl) _) (fun _ => rfl) _) (fun _ => rfl) _

set_option maxRecDepth 100000 in
set_option maxHeartbeats 1000000 in
theorem isClosed_any (q : Pl) (b : Bk) (n : Int) (w : World) (h : BkS w q b) : Calls Tryz.prog 62 #[.pointer (some ⟨q.p, 0, none⟩), .int .i64 n] w fun e w' => e = .returned (.bool (decide (n ≤ b.cl))) ∧ w = w' := by
  have x2 : w.cell? ⟨q.p, 2, none⟩ = some (.int .i64 b.cl) := h.blk.cell 2
  clear h
  go_enter Tryz.func62, Tryz.ntmps62
  go_wp2
  go_ret
  exact ⟨rfl, rfl⟩

set_option maxRecDepth 100000 in
set_option maxHeartbeats 1000000 in
theorem about_any (q : Pl) (b : Bk) (s : ByteArray) (e0 : Int) (w : World) (h : BkS w q b) (hs : s.size ≤ maxLen) :
    Calls Tryz.prog 60 #[.pointer (some ⟨q.p, 0, none⟩), .string s, .int .i64 e0] w fun e w' => e = .returned (aboutR b.S s.data.toList e0).val ∧ BkS w' q b ∧ Fr (At1 q.m) w w' := by
  have HH := Lib.hid h
  by_cases h0 : e0 = 0
  · subst h0
    have HG : Hid (∀ W, Fr No w W → Calls Tryz.prog 78 #[.pointer (some ⟨q.c, 0, none⟩), .string s] W (GotC q.c q.m b.S s.data.toList W)) := fun W hW => get_any q.c q.m b.S s W (h.ch.no hW) hs h.inv.st.kp.inv.len
    have x0 : ∀ o, (w.alloc o).cell? ⟨q.p, 0, none⟩ = some (.pointer (some ⟨q.c, 0, none⟩)) := fun o => (h.blk.alloc o).cell 0
    have hml := h.ch.2.lt
    clear h hs
    go_enter Tryz.func60, Tryz.ntmps60
    go_wp2_with fail
    refine (HG.out _ ((Fr.refl _ _).alloc _)).mono ?_
    rintro e w2 ⟨rfl, hc2, hf2⟩
    have hb := (Blk.new w 29 #[.int .i64 0, .int .i64 0, .int .i64 0, .int .i64 0]).fr hf2 (fun e => by have : w.heap.size = q.m := e; omega)
    have HF2 : Hid (Fr (At1 q.m) w w2) := (((Fr.refl No w).alloc _).mono (T := At1 q.m) fun _ _ h => False.elim h).trans hf2
    have HB2 := Lib.hid (HH.out.chart_same hc2 HF2.out)
    have c0 := hb.cell 0
    have c1 := hb.cell 1
    have c2 := hb.cell 2
    have c3 := hb.cell 3
    have f0 := hb.frozen 0
    have f1 := hb.frozen 1
    have f2 := hb.frozen 2
    have f3 := hb.frozen 3
    simp only [List.getElem?_toArray, List.getElem?_cons_zero, List.getElem?_cons_succ] at c0 c1 c2 c3
    have HR : Hid (aboutR b.S s.data.toList 0 = ⟨(if (getA b.S s.data.toList).isSome then 0 else 6), (getV b.S s.data.toList).hv, (getV b.S s.data.toList).st, 0⟩) := rfl
    have hrl := hb.lt
    generalize getV b.S s.data.toList = V at *
    generalize (if (getA b.S s.data.toList).isSome then (0 : Int) else 6) = n at *
    obtain ⟨vn, vh, vs, vl⟩ := V
    unfold Ac.val
    simp only at HR
    have hy := Blk.new w2 42 #[.string ⟨vn.toArray⟩, .int .i64 vh, .int .i64 vs, .int .i64 vl]
    have y1 := hy.cell 1
    have y2 := hy.cell 2
    simp only [List.getElem?_toArray, List.getElem?_cons_zero, List.getElem?_cons_succ] at y1 y2
    have HB4 := Lib.hid hb
    clear hy hb hf2 hc2 x0 HG
    go_wp2
    have hd : Blk (((((w2.setCell ⟨w.heap.size, 0, none⟩ (.int .i64 n)).setCell ⟨w.heap.size, 1, none⟩ (.int .i64 vh)).setCell ⟨w.heap.size, 2, none⟩ (.int .i64 vs)).setCell ⟨w.heap.size, 3, none⟩ (.int .i64 0)).alloc (.cells #[.string ⟨vn.toArray⟩, .int .i64 vh, .int .i64 vs, .int .i64 vl] 42)) w.heap.size 29 #[.int .i64 n, .int .i64 vh, .int .i64 vs, .int .i64 0] :=
      ((((HB4.out.set_ 0 (.int .i64 n)).set_ 1 (.int .i64 vh)).set_ 2 (.int .i64 vs)).set_ 3 (.int .i64 0)).alloc _
    have HX := (fr_set4 w2 w.heap.size (.int .i64 n) (.int .i64 vh) (.int .i64 vs) (.int .i64 0)).alloc (.cells #[.string ⟨vn.toArray⟩, .int .i64 vh, .int .i64 vs, .int .i64 vl] 42)
    generalize ((((w2.setCell ⟨w.heap.size, 0, none⟩ (.int .i64 n)).setCell ⟨w.heap.size, 1, none⟩ (.int .i64 vh)).setCell ⟨w.heap.size, 2, none⟩ (.int .i64 vs)).setCell ⟨w.heap.size, 3, none⟩ (.int .i64 0)).alloc (.cells #[.string ⟨vn.toArray⟩, .int .i64 vh, .int .i64 vs, .int .i64 vl] 42) = w3 at *
    have d0 := hd.cell 0
    have d1 := hd.cell 1
    have d2 := hd.cell 2
    have d3 := hd.cell 3
    simp only [List.getElem?_toArray, List.getElem?_cons_zero, List.getElem?_cons_succ] at d0 d1 d2 d3
    refine bodyPost_ret (v := .agg #[.int .i64 n, .int .i64 vh, .int .i64 vs, .int .i64 0]) (by simp [results, Tryz.results60, go_sem, d0, d1, d2, d3]) rfl ?_
    refine ⟨by rw [HR.out]; rfl, HB2.out.fr HX (fun i hi e => ?_), HF2.out.trans' HX fun i hi hlt => ?_⟩
    · have := HH.out.lt i hi
      have : i = w.heap.size := e
      omega
    · have : i = w.heap.size := hi
      omega
  · have HR : Hid (aboutR b.S s.data.toList e0 = ⟨e0, 0, 0, 0⟩) := by show _ = _; unfold aboutR; rw [if_neg h0]; rfl
    have hne : (e0 != 0) = true := by rw [bne_iff_ne]; exact h0
    have hb := Blk.new w 29 #[.int .i64 0, .int .i64 0, .int .i64 0, .int .i64 0]
    have c0 := hb.cell 0
    have c1 := hb.cell 1
    have c2 := hb.cell 2
    have c3 := hb.cell 3
    have f0 := hb.frozen 0
    have f1 := hb.frozen 1
    have f2 := hb.frozen 2
    have f3 := hb.frozen 3
    simp only [List.getElem?_toArray, List.getElem?_cons_zero, List.getElem?_cons_succ] at c0 c1 c2 c3
    clear h h0 hb hs
    go_enter Tryz.func60, Tryz.ntmps60
    go_wp2
    refine bodyPost_ret (v := .agg #[.int .i64 e0, .int .i64 0, .int .i64 0, .int .i64 0]) (by simp [results, Tryz.results60, go_sem, c0, c1, c2, c3, f0, f1, f2, f3]) rfl ?_
    exact ⟨by rw [HR.out]; rfl, HH.out.no ((Fr.refl _ _).alloc _), (Fr.refl _ _).alloc _⟩
set_option maxRecDepth 100000 in
set_option maxHeartbeats 1000000 in
theorem newB_any (w : World) : Calls Tryz.prog 9 #[] w fun e w' => ∃ q : Pl, e = .returned (.pointer (some ⟨q.p, 0, none⟩)) ∧ BkS w' q bk0 ∧ Fr No w w' ∧ ∀ i, q.all i → w.heap.size ≤ i := by
  go_enter Tryz.func9, Tryz.ntmps9
  go_wp2_with fail
  refine (new_any _).mono ?_
  rintro e w1 ⟨c, m, rfl, hc1, hf1, hcl, hml⟩
  go_wp2_with fail
  refine (newH_any _).mono ?_
  rintro e w2 ⟨h, k, rfl, hh2, hf2, hhl, hkl⟩
  have hm := hc1.2.lt
  have hc2 := hc1.no hf2
  have hs1 := hf1.size
  have hs2 := hf2.size
  have HB := Lib.hid (Blk.new w2 61 #[.pointer (some ⟨c, 0, none⟩), .pointer (some ⟨h, 0, none⟩), .int .i64 0])
  have HC2 := Lib.hid hc2
  have HH2 := Lib.hid hh2
  have HF := Lib.hid (hf1.trans hf2)
  clear hc1 hf1 hc2 hh2 hf2
  go_wp2
  go_ret
  refine ⟨⟨w2.heap.size, c, m, h, k⟩, rfl, ⟨HB.out, HC2.out.no ((Fr.refl _ _).alloc _), HH2.out.no ((Fr.refl _ _).alloc _), ?_, bki0⟩, HF.out.alloc _, ?_⟩
  · simp only
    omega
  · intro i hi
    rcases hi with e | e | e | e | e <;> simp only at e <;> omega
end Go.Proofs.YtgklifbfbjdobaaGreat

namespace Go.Proofs.YtgklifbfbjdobaaGreat
open Go.RowKit Go.My Go.Maps
set_option linter.unusedSimpArgs false
set_option linter.unusedVariables false
attribute [local go_sem ↓] Go.wp_at_zero Go.wp_at_succ

/-- told, and done -/
def DidB (q : Pl) (r : Rp) (b : Bk) (w : World) (e : Ending) (w' : World) : Prop := e = .returned r.val ∧ BkS w' q b ∧ Fr q.wr w w'
theorem eff_inv {b : Bk} (h : BkI b) {o : Od} (ho : o.ok) (hr : rightO o = true) : BkI (effB b o) := by
  have h1 := do_inv h ho
  unfold doB at h1
  rw [if_pos hr] at h1
  exact h1
theorem Pl.far {q : Pl} {w : World} {b : Bk} (h : BkS w q b) {g : Nat} (hg : w.heap.size ≤ g) : ¬ q.wr g := fun e => by
  have := h.lt g (Pl.wr_all e)
  omega
/-- what is written of a book, and one block besides -/
def At3 (m k g : Nat) : Nat → Prop := fun i => i = m ∨ i = k ∨ i = g
theorem blk_set4 {w : World} {g : Nat} {t : TypeId} {x0 x1 x2 x3 : Value} (h : Blk w g t #[x0, x1, x2, x3]) (a b c d : Value) : Blk ((((w.setCell ⟨g, 0, none⟩ a).setCell ⟨g, 1, none⟩ b).setCell ⟨g, 2, none⟩ c).setCell ⟨g, 3, none⟩ d) g t #[a, b, c, d] :=
  (((h.set_ 0 a).set_ 1 b).set_ 2 c).set_ 3 d
theorem did_of {q : Pl} {b b' : Bk} {w w1 u W : World} {g : Nat} (hq : BkS w q b) (hg : w.heap.size ≤ g) (hf : Fr No w w1) (hk : Fr (At2 q.m q.k) w1 u) (hb : BkS u q b') (hx : Fr (At1 g) u W) : BkS W q b' ∧ Fr q.wr w W := by
  have h1 : Fr q.wr w u := (hf.mono (T := q.wr) fun _ _ h => False.elim h).trans (Pl.wr_mk hk)
  refine ⟨hb.fr hx fun i hi e => ?_, h1.trans' hx fun i hi hlt => ?_⟩
  · have := hq.lt i hi
    have : i = g := e
    omega
  · have : i = g := hi
    omega
theorem number_any (a b : Int) (ha : 0 ≤ a ∧ a ≤ 9) (hb : 1 ≤ b ∧ b ≤ 999) (w : World) : Calls Tryz.prog 64 #[.agg #[.int .i64 a, .int .i64 b]] w fun e w' => e = .returned (.int .i64 (1000 * a + b)) ∧ Fr No w w' := by
  obtain ⟨a1, a2⟩ := ha
  obtain ⟨b1, b2⟩ := hb
  go_enter Tryz.func64, Tryz.ntmps64
  go_wp2
  go_ret
  exact ⟨rfl, (Fr.refl _ _).alloc _⟩
set_option maxRecDepth 100000 in
set_option maxHeartbeats 2000000 in
theorem bopen_any (q : Pl) (b : Bk) (o : Od) (v : Value) (w : World) (h : BkS w q b) (ho : o.ok) (hr : rightO o = true) (hk : o.kd = 1) :
    Calls Tryz.prog 33 #[.pointer (some ⟨q.p, 0, none⟩), o.val v] w (DidB q (effR b o) (effB b o) w) := by
  have hI := eff_inv h.inv ho hr
  have eB : effB b o = ⟨openS b.S o.an o.sum, b.H, b.cl⟩ := by unfold effB; rw [if_pos hk]
  have eR : effR b o = aboutR (openS b.S o.an o.sum) o.an (openE b.S o.an o.sum) := by unfold effR; rw [if_pos hk]
  rw [eB] at hI
  rw [eB, eR]
  obtain ⟨-, -, -, hac, hpe, hsm, hpr, hhd, -⟩ := ho
  clear eB eR hr
  obtain ⟨ocl, osq, okd, oac, ope, osm, olg, opr, ohd, ont⟩ := o
  unfold Od.val Od.cs Od.an at *
  simp only at hac hpe hsm hpr hhd hI ⊢
  clear hk
  have HH := Lib.hid h
  have HI := Lib.hid hI
  have HO : Hid (∀ W, Fr No w W → Calls Tryz.prog 61 #[.pointer (some ⟨q.c, 0, none⟩), .string oac, .int .i64 osm] W fun e w' => e = .returned (.int .i64 (openE b.S oac.data.toList osm)) ∧ BkS w' q ⟨openS b.S oac.data.toList osm, b.H, b.cl⟩ ∧ Fr (At2 q.m q.k) W w') := fun W hW =>
    (open_any q.c q.m b.S oac osm W (h.ch.no hW) hac hsm h.inv.st.kp.inv.len).mono fun e w' hx => ⟨hx.1, (h.no hW).chart hx.2.1 hx.2.2 hI, hx.2.2.mono fun _ _ h => .inl h⟩
  generalize openE b.S oac.data.toList osm = E at *
  generalize openS b.S oac.data.toList osm = T at *
  obtain ⟨re, rh, rs, rn, hR⟩ : ∃ a b c d, aboutR T oac.data.toList E = ⟨a, b, c, d⟩ := ⟨_, _, _, _, rfl⟩
  have HAB : Hid (∀ W, BkS W q ⟨T, b.H, b.cl⟩ → Calls Tryz.prog 60 #[.pointer (some ⟨q.p, 0, none⟩), .string oac, .int .i64 E] W fun e w' => e = .returned (.agg #[.int .i64 re, .int .i64 rh, .int .i64 rs, .int .i64 rn]) ∧ BkS w' q ⟨T, b.H, b.cl⟩ ∧ Fr (At2 q.m q.k) W w') := fun W hW => by
    have hx := about_any q ⟨T, b.H, b.cl⟩ oac E W hW hac
    rw [hR] at hx
    exact hx.mono fun e w' h => ⟨h.1, h.2.1, h.2.2.mono fun _ _ h => .inl h⟩
  rw [hR]
  have hfar : ∀ g, w.heap.size ≤ g → ¬ At2 q.m q.k g := fun g hg e => Pl.far h hg (by rcases e with e | e; exact .inr (.inl e); exact .inr (.inr e))
  have hbk := h.blk
  have hbo := Blk.new w 35 #[.int .i64 ocl, .int .i64 osq, .int .i64 okd, .string oac, .string ope, .int .i64 osm, v, .int .i64 opr, .int .i64 ohd, .string ont]
  have hbr := Blk.new (w.alloc (.cells #[.int .i64 ocl, .int .i64 osq, .int .i64 okd, .string oac, .string ope, .int .i64 osm, v, .int .i64 opr, .int .i64 ohd, .string ont] 35)) 29 #[.int .i64 0, .int .i64 0, .int .i64 0, .int .i64 0]
  rw [World.size_alloc] at hbr
  have hbo1 := hbo.alloc (.cells #[.int .i64 0, .int .i64 0, .int .i64 0, .int .i64 0] 29)
  have hf1 : Fr No w ((w.alloc (.cells #[.int .i64 ocl, .int .i64 osq, .int .i64 okd, .string oac, .string ope, .int .i64 osm, v, .int .i64 opr, .int .i64 ohd, .string ont] 35)).alloc (.cells #[.int .i64 0, .int .i64 0, .int .i64 0, .int .i64 0] 29)) := ((Fr.refl _ _).alloc _).alloc _
  have hmp := h.mp
  have hlt : q.p < w.heap.size := h.blk.lt
  clear h hI hR hac hsm hpe hpr hhd hbo
  go_enter Tryz.func33, Tryz.ntmps33
  go_upto_region 1 with (fail)
  generalize ((w.alloc (.cells #[.int .i64 ocl, .int .i64 osq, .int .i64 okd, .string oac, .string ope, .int .i64 osm, v, .int .i64 opr, .int .i64 ohd, .string ont] 35)).alloc (.cells #[.int .i64 0, .int .i64 0, .int .i64 0, .int .i64 0] 29)) = w1 at *
  have HF1 := Lib.hid hf1
  have HBR := Lib.hid hbr
  have HX : Hid (∀ W, Fr (At3 q.m q.k (w.heap.size + 1)) w1 W → Fr (At3 q.m q.k (w.heap.size + 1)) w1 W ∧ W.cell? ⟨q.p, 0, none⟩ = some (.pointer (some ⟨q.c, 0, none⟩)) ∧ W.cell? ⟨q.p, 1, none⟩ = some (.pointer (some ⟨q.h, 0, none⟩)) ∧ W.cell? ⟨w.heap.size, 3, none⟩ = some (.string oac) ∧ W.cell? ⟨w.heap.size, 5, none⟩ = some (.int .i64 osm)) := fun W hW => by
    have h1 := hbo1.fr hW (fun e => by rcases e with e | e | e; exact hfar _ (Nat.le_refl _) (.inl e); exact hfar _ (Nat.le_refl _) (.inr e); omega)
    have h2 := (hbk.fr hf1 (fun h => h)).fr hW (fun e => by rcases e with e | e | e; exact hmp.1 e.symm; exact hmp.2 e.symm; omega)
    exact ⟨hW, h2.cell 0, h2.cell 1, h1.cell 3, h1.cell 5⟩
  have HFAR := Lib.hid hfar
  have hw1 : Fr (At3 q.m q.k (w.heap.size + 1)) w1 w1.drew := (Fr.refl _ w1).drew
  clear hf1 hbr hbo1 hbk hfar hmp hlt
  go_region_held3 (fun W => Fr (At3 q.m q.k (w.heap.size + 1)) w1 W ∧ W.cell? ⟨q.p, 0, none⟩ = some (.pointer (some ⟨q.c, 0, none⟩)) ∧ W.cell? ⟨q.p, 1, none⟩ = some (.pointer (some ⟨q.h, 0, none⟩)) ∧ W.cell? ⟨w.heap.size, 3, none⟩ = some (.string oac) ∧ W.cell? ⟨w.heap.size, 5, none⟩ = some (.int .i64 osm))
    (first
      | (refine HX.out _ ?_; with_reducible assumption)
      | (refine HX.out _ (Fr.trans ?_ ((fr_set4 _ _ _ _ _ _).mono fun _ _ h => .inr (.inr h))); with_reducible assumption))
    (first
      | (go_at_call 61; (with_reducible refine (HO.out _ (HF1.out.drew)).mono ?_); rintro e u1 ⟨rfl, hb1, hg⟩; have ka1 : Fr (At2 q.m q.k) w1 u1 := Fr.trans (Fr.refl _ w1).drew hg; have hg1 : Fr (At3 q.m q.k (w.heap.size + 1)) w1 u1 := ka1.mono (fun _ _ h => by rcases h with h | h; exact .inl h; exact .inr (.inl h)); clear hg)
      | (go_at_call 60; (with_reducible refine (HAB.out _ hb1).mono ?_); rintro e u2 ⟨rfl, hb2, hg⟩; have ka2 : Fr (At2 q.m q.k) w1 u2 := Fr.trans ka1 hg; have hg2 : Fr (At3 q.m q.k (w.heap.size + 1)) w1 u2 := ka2.mono (fun _ _ h => by rcases h with h | h; exact .inl h; exact .inr (.inl h)); clear hg; have hr2 := HBR.out.fr ka2 (HFAR.out _ (Nat.le_succ _)); have c0 := hr2.cell 0; have c1 := hr2.cell 1; have c2 := hr2.cell 2; have c3 := hr2.cell 3; have f0 := hr2.frozen 0; have f1 := hr2.frozen 1; have f2 := hr2.frozen 2; have f3 := hr2.frozen 3; simp only [List.getElem?_toArray, List.getElem?_cons_zero, List.getElem?_cons_succ] at c0 c1 c2 c3))
  all_goals
    have hd := blk_set4 hr2 (.int .i64 re) (.int .i64 rh) (.int .i64 rs) (.int .i64 rn)
    have HD := Lib.hid (did_of HH.out (Nat.le_succ _) HF1.out ka2 hb2 (fr_set4 u2 (w.heap.size + 1) (.int .i64 re) (.int .i64 rh) (.int .i64 rs) (.int .i64 rn)))
    clear c0 c1 c2 c3 f0 f1 f2 f3 hr2 HX
    generalize (((u2.setCell ⟨w.heap.size + 1, 0, none⟩ (.int .i64 re)).setCell ⟨w.heap.size + 1, 1, none⟩ (.int .i64 rh)).setCell ⟨w.heap.size + 1, 2, none⟩ (.int .i64 rs)).setCell ⟨w.heap.size + 1, 3, none⟩ (.int .i64 rn) = u3 at *
    have d0 := hd.cell 0
    have d1 := hd.cell 1
    have d2 := hd.cell 2
    have d3 := hd.cell 3
    simp only [List.getElem?_toArray, List.getElem?_cons_zero, List.getElem?_cons_succ] at d0 d1 d2 d3
    go_wp2
    refine bodyPost_ret (v := .agg #[.int .i64 re, .int .i64 rh, .int .i64 rs, .int .i64 rn]) (by simp [results, Tryz.results33, go_sem, d0, d1, d2, d3]) rfl ?_
    exact ⟨rfl, HD.out⟩
set_option maxRecDepth 100000 in
set_option maxHeartbeats 2000000 in
theorem bcapture_any (q : Pl) (b : Bk) (o : Od) (v : Value) (w : World) (h : BkS w q b) (ho : o.ok) (hr : rightO o = true) (hk : o.kd = 4) (hcl : ¬ o.per ≤ b.cl) :
    Calls Tryz.prog 36 #[.pointer (some ⟨q.p, 0, none⟩), o.val v] w (DidB q (effR b o) (effB b o) w) := by
  have hI := eff_inv h.inv ho hr
  have eB : effB b o = ⟨takeSS b.S b.H o.acct o.hold o.peer o.sum, takeHH b.S b.H o.acct o.hold o.peer o.sum, b.cl⟩ := by unfold effB; rw [if_neg (show ¬ o.kd = 1 by omega), if_neg (show ¬ o.kd = 2 by omega), if_neg (show ¬ o.kd = 3 by omega), if_pos hk, if_neg hcl]
  have eR : effR b o = aboutR (takeSS b.S b.H o.acct o.hold o.peer o.sum) o.an (takeE b.S b.H o.acct o.hold o.peer o.sum) := by unfold effR; rw [if_neg (show ¬ o.kd = 1 by omega), if_neg (show ¬ o.kd = 2 by omega), if_neg (show ¬ o.kd = 3 by omega), if_pos hk, if_neg hcl]
  rw [eB] at hI
  rw [eB, eR]
  obtain ⟨-, -, -, hac, hpe, hsm, hpr, hhd, -⟩ := ho
  clear eB eR hr
  obtain ⟨ocl, osq, okd, oac, ope, osm, olg, opr, ohd, ont⟩ := o
  unfold Od.val Od.cs Od.an at *
  simp only at hac hpe hsm hpr hhd hI hcl ⊢
  clear hk
  have HH := Lib.hid h
  have HI := Lib.hid hI
  have HO : Hid (∀ W, Fr No w W → Calls Tryz.prog 66 #[.pointer (some ⟨q.h, 0, none⟩), .pointer (some ⟨q.c, 0, none⟩), .string oac, .int .i64 ohd, .string ope, .int .i64 osm] W fun e w' => e = .returned (.int .i64 (takeE b.S b.H oac ohd ope osm)) ∧ BkS w' q ⟨takeSS b.S b.H oac ohd ope osm, takeHH b.S b.H oac ohd ope osm, b.cl⟩ ∧ Fr (At2 q.m q.k) W w') := fun W hW =>
    (take_any q.c q.m q.h q.k b.S b.H oac ope ohd osm W (h.ch.no hW) h.inv.st.kp.inv h.inv.st.kp.good (h.hd.no hW) h.inv.st.pos (by have := h.inv.st.len; omega) h.ne hac hpe hhd hsm).mono fun e w' hx => ⟨hx.ret, (h.no hW).both hx hI, hx.fr⟩
  generalize takeE b.S b.H oac ohd ope osm = E at *
  generalize takeSS b.S b.H oac ohd ope osm = T at *
  generalize takeHH b.S b.H oac ohd ope osm = T2 at *
  obtain ⟨re, rh, rs, rn, hR⟩ : ∃ a b c d, aboutR T oac.data.toList E = ⟨a, b, c, d⟩ := ⟨_, _, _, _, rfl⟩
  have HAB : Hid (∀ W, BkS W q ⟨T, T2, b.cl⟩ → Calls Tryz.prog 60 #[.pointer (some ⟨q.p, 0, none⟩), .string oac, .int .i64 E] W fun e w' => e = .returned (.agg #[.int .i64 re, .int .i64 rh, .int .i64 rs, .int .i64 rn]) ∧ BkS w' q ⟨T, T2, b.cl⟩ ∧ Fr (At2 q.m q.k) W w') := fun W hW => by
    have hx := about_any q ⟨T, T2, b.cl⟩ oac E W hW hac
    rw [hR] at hx
    exact hx.mono fun e w' h => ⟨h.1, h.2.1, h.2.2.mono fun _ _ h => .inl h⟩
  rw [hR]
  have hfar : ∀ g, w.heap.size ≤ g → ¬ At2 q.m q.k g := fun g hg e => Pl.far h hg (by rcases e with e | e; exact .inr (.inl e); exact .inr (.inr e))
  have hbk := h.blk
  have hbo := Blk.new w 35 #[.int .i64 ocl, .int .i64 osq, .int .i64 okd, .string oac, .string ope, .int .i64 osm, v, .int .i64 opr, .int .i64 ohd, .string ont]
  have hbr := Blk.new (w.alloc (.cells #[.int .i64 ocl, .int .i64 osq, .int .i64 okd, .string oac, .string ope, .int .i64 osm, v, .int .i64 opr, .int .i64 ohd, .string ont] 35)) 29 #[.int .i64 0, .int .i64 0, .int .i64 0, .int .i64 0]
  rw [World.size_alloc] at hbr
  have hbo1 := hbo.alloc (.cells #[.int .i64 0, .int .i64 0, .int .i64 0, .int .i64 0] 29)
  have hf1 : Fr No w ((w.alloc (.cells #[.int .i64 ocl, .int .i64 osq, .int .i64 okd, .string oac, .string ope, .int .i64 osm, v, .int .i64 opr, .int .i64 ohd, .string ont] 35)).alloc (.cells #[.int .i64 0, .int .i64 0, .int .i64 0, .int .i64 0] 29)) := ((Fr.refl _ _).alloc _).alloc _
  have hmp := h.mp
  have hlt : q.p < w.heap.size := h.blk.lt
  have HCL : Hid (∀ W, Fr No w W → Calls Tryz.prog 62 #[.pointer (some ⟨q.p, 0, none⟩), .int .i64 opr] W fun e w' => e = .returned (.bool false) ∧ W = w') := fun W hW => by
    have hx := isClosed_any q b opr W (h.no hW)
    rw [decide_eq_false hcl] at hx
    exact hx
  clear hcl
  have o7 := hbo1.cell 7
  simp only [List.getElem?_toArray, List.getElem?_cons_zero, List.getElem?_cons_succ] at o7
  clear h hI hR hac hsm hpe hpr hhd hbo
  go_enter Tryz.func36, Tryz.ntmps36
  go_wp2_with fail
  (with_reducible refine (HCL.out _ (((Fr.refl _ _).alloc _).alloc _)).mono ?_)
  rintro e w0 ⟨rfl, rfl⟩
  clear HCL o7
  go_upto_region 3 with (fail)
  generalize ((w.alloc (.cells #[.int .i64 ocl, .int .i64 osq, .int .i64 okd, .string oac, .string ope, .int .i64 osm, v, .int .i64 opr, .int .i64 ohd, .string ont] 35)).alloc (.cells #[.int .i64 0, .int .i64 0, .int .i64 0, .int .i64 0] 29)) = w1 at *
  have HF1 := Lib.hid hf1
  have HBR := Lib.hid hbr
  have HX : Hid (∀ W, Fr (At3 q.m q.k (w.heap.size + 1)) w1 W → Fr (At3 q.m q.k (w.heap.size + 1)) w1 W ∧ W.cell? ⟨q.p, 0, none⟩ = some (.pointer (some ⟨q.c, 0, none⟩)) ∧ W.cell? ⟨q.p, 1, none⟩ = some (.pointer (some ⟨q.h, 0, none⟩)) ∧ W.cell? ⟨w.heap.size, 3, none⟩ = some (.string oac) ∧ W.cell? ⟨w.heap.size, 4, none⟩ = some (.string ope) ∧ W.cell? ⟨w.heap.size, 5, none⟩ = some (.int .i64 osm) ∧ W.cell? ⟨w.heap.size, 8, none⟩ = some (.int .i64 ohd)) := fun W hW => by
    have h1 := hbo1.fr hW (fun e => by rcases e with e | e | e; exact hfar _ (Nat.le_refl _) (.inl e); exact hfar _ (Nat.le_refl _) (.inr e); omega)
    have h2 := (hbk.fr hf1 (fun h => h)).fr hW (fun e => by rcases e with e | e | e; exact hmp.1 e.symm; exact hmp.2 e.symm; omega)
    exact ⟨hW, h2.cell 0, h2.cell 1, h1.cell 3, h1.cell 4, h1.cell 5, h1.cell 8⟩
  have HFAR := Lib.hid hfar
  have hw1 : Fr (At3 q.m q.k (w.heap.size + 1)) w1 w1.drew := (Fr.refl _ w1).drew
  clear hf1 hbr hbo1 hbk hfar hmp hlt
  go_region_held3 (fun W => Fr (At3 q.m q.k (w.heap.size + 1)) w1 W ∧ W.cell? ⟨q.p, 0, none⟩ = some (.pointer (some ⟨q.c, 0, none⟩)) ∧ W.cell? ⟨q.p, 1, none⟩ = some (.pointer (some ⟨q.h, 0, none⟩)) ∧ W.cell? ⟨w.heap.size, 3, none⟩ = some (.string oac) ∧ W.cell? ⟨w.heap.size, 4, none⟩ = some (.string ope) ∧ W.cell? ⟨w.heap.size, 5, none⟩ = some (.int .i64 osm) ∧ W.cell? ⟨w.heap.size, 8, none⟩ = some (.int .i64 ohd))
    (first
      | (refine HX.out _ ?_; with_reducible assumption)
      | (refine HX.out _ (Fr.trans ?_ ((fr_set4 _ _ _ _ _ _).mono fun _ _ h => .inr (.inr h))); with_reducible assumption))
    (first
      | (go_at_call 66; (with_reducible refine (HO.out _ (HF1.out.drew)).mono ?_); rintro e u1 ⟨rfl, hb1, hg⟩; have ka1 : Fr (At2 q.m q.k) w1 u1 := Fr.trans (Fr.refl _ w1).drew hg; have hg1 : Fr (At3 q.m q.k (w.heap.size + 1)) w1 u1 := ka1.mono (fun _ _ h => by rcases h with h | h; exact .inl h; exact .inr (.inl h)); clear hg)
      | (go_at_call 60; (with_reducible refine (HAB.out _ hb1).mono ?_); rintro e u2 ⟨rfl, hb2, hg⟩; have ka2 : Fr (At2 q.m q.k) w1 u2 := Fr.trans ka1 hg; have hg2 : Fr (At3 q.m q.k (w.heap.size + 1)) w1 u2 := ka2.mono (fun _ _ h => by rcases h with h | h; exact .inl h; exact .inr (.inl h)); clear hg; have hr2 := HBR.out.fr ka2 (HFAR.out _ (Nat.le_succ _)); have c0 := hr2.cell 0; have c1 := hr2.cell 1; have c2 := hr2.cell 2; have c3 := hr2.cell 3; have f0 := hr2.frozen 0; have f1 := hr2.frozen 1; have f2 := hr2.frozen 2; have f3 := hr2.frozen 3; simp only [List.getElem?_toArray, List.getElem?_cons_zero, List.getElem?_cons_succ] at c0 c1 c2 c3))
  all_goals
    have hd := blk_set4 hr2 (.int .i64 re) (.int .i64 rh) (.int .i64 rs) (.int .i64 rn)
    have HD := Lib.hid (did_of HH.out (Nat.le_succ _) HF1.out ka2 hb2 (fr_set4 u2 (w.heap.size + 1) (.int .i64 re) (.int .i64 rh) (.int .i64 rs) (.int .i64 rn)))
    clear c0 c1 c2 c3 f0 f1 f2 f3 hr2 HX
    generalize (((u2.setCell ⟨w.heap.size + 1, 0, none⟩ (.int .i64 re)).setCell ⟨w.heap.size + 1, 1, none⟩ (.int .i64 rh)).setCell ⟨w.heap.size + 1, 2, none⟩ (.int .i64 rs)).setCell ⟨w.heap.size + 1, 3, none⟩ (.int .i64 rn) = u3 at *
    have d0 := hd.cell 0
    have d1 := hd.cell 1
    have d2 := hd.cell 2
    have d3 := hd.cell 3
    simp only [List.getElem?_toArray, List.getElem?_cons_zero, List.getElem?_cons_succ] at d0 d1 d2 d3
    go_wp2
    refine bodyPost_ret (v := .agg #[.int .i64 re, .int .i64 rh, .int .i64 rs, .int .i64 rn]) (by simp [results, Tryz.results36, go_sem, d0, d1, d2, d3]) rfl ?_
    exact ⟨rfl, HD.out⟩
set_option maxRecDepth 100000 in
set_option maxHeartbeats 2000000 in
theorem brelease_any (q : Pl) (b : Bk) (o : Od) (v : Value) (w : World) (h : BkS w q b) (ho : o.ok) (hr : rightO o = true) (hk : o.kd = 5) :
    Calls Tryz.prog 37 #[.pointer (some ⟨q.p, 0, none⟩), o.val v] w (DidB q (effR b o) (effB b o) w) := by
  have hI := eff_inv h.inv ho hr
  have eB : effB b o = ⟨freeSS b.S b.H o.an o.hold, freeHH b.S b.H o.an o.hold, b.cl⟩ := by unfold effB; rw [if_neg (show ¬ o.kd = 1 by omega), if_neg (show ¬ o.kd = 2 by omega), if_neg (show ¬ o.kd = 3 by omega), if_neg (show ¬ o.kd = 4 by omega), if_pos hk]
  have eR : effR b o = aboutR (freeSS b.S b.H o.an o.hold) o.an (freeE b.S b.H o.an o.hold) := by unfold effR; rw [if_neg (show ¬ o.kd = 1 by omega), if_neg (show ¬ o.kd = 2 by omega), if_neg (show ¬ o.kd = 3 by omega), if_neg (show ¬ o.kd = 4 by omega), if_pos hk]
  rw [eB] at hI
  rw [eB, eR]
  obtain ⟨-, -, -, hac, hpe, hsm, hpr, hhd, -⟩ := ho
  clear eB eR hr
  obtain ⟨ocl, osq, okd, oac, ope, osm, olg, opr, ohd, ont⟩ := o
  unfold Od.val Od.cs Od.an at *
  simp only at hac hpe hsm hpr hhd hI ⊢
  clear hk
  have HH := Lib.hid h
  have HI := Lib.hid hI
  have HO : Hid (∀ W, Fr No w W → Calls Tryz.prog 67 #[.pointer (some ⟨q.h, 0, none⟩), .pointer (some ⟨q.c, 0, none⟩), .string oac, .int .i64 ohd] W fun e w' => e = .returned (.int .i64 (freeE b.S b.H oac.data.toList ohd)) ∧ BkS w' q ⟨freeSS b.S b.H oac.data.toList ohd, freeHH b.S b.H oac.data.toList ohd, b.cl⟩ ∧ Fr (At2 q.m q.k) W w') := fun W hW =>
    (free_any q.c q.m q.h q.k b.S b.H oac ohd W (h.ch.no hW) h.inv.st.kp.inv (h.hd.no hW) h.inv.st.pos (by have := h.inv.st.len; omega) h.ne hac hhd).mono fun e w' hx => ⟨hx.ret, (h.no hW).both hx hI, hx.fr⟩
  generalize freeE b.S b.H oac.data.toList ohd = E at *
  generalize freeSS b.S b.H oac.data.toList ohd = T at *
  generalize freeHH b.S b.H oac.data.toList ohd = T2 at *
  obtain ⟨re, rh, rs, rn, hR⟩ : ∃ a b c d, aboutR T oac.data.toList E = ⟨a, b, c, d⟩ := ⟨_, _, _, _, rfl⟩
  have HAB : Hid (∀ W, BkS W q ⟨T, T2, b.cl⟩ → Calls Tryz.prog 60 #[.pointer (some ⟨q.p, 0, none⟩), .string oac, .int .i64 E] W fun e w' => e = .returned (.agg #[.int .i64 re, .int .i64 rh, .int .i64 rs, .int .i64 rn]) ∧ BkS w' q ⟨T, T2, b.cl⟩ ∧ Fr (At2 q.m q.k) W w') := fun W hW => by
    have hx := about_any q ⟨T, T2, b.cl⟩ oac E W hW hac
    rw [hR] at hx
    exact hx.mono fun e w' h => ⟨h.1, h.2.1, h.2.2.mono fun _ _ h => .inl h⟩
  rw [hR]
  have hfar : ∀ g, w.heap.size ≤ g → ¬ At2 q.m q.k g := fun g hg e => Pl.far h hg (by rcases e with e | e; exact .inr (.inl e); exact .inr (.inr e))
  have hbk := h.blk
  have hbo := Blk.new w 35 #[.int .i64 ocl, .int .i64 osq, .int .i64 okd, .string oac, .string ope, .int .i64 osm, v, .int .i64 opr, .int .i64 ohd, .string ont]
  have hbr := Blk.new (w.alloc (.cells #[.int .i64 ocl, .int .i64 osq, .int .i64 okd, .string oac, .string ope, .int .i64 osm, v, .int .i64 opr, .int .i64 ohd, .string ont] 35)) 29 #[.int .i64 0, .int .i64 0, .int .i64 0, .int .i64 0]
  rw [World.size_alloc] at hbr
  have hbo1 := hbo.alloc (.cells #[.int .i64 0, .int .i64 0, .int .i64 0, .int .i64 0] 29)
  have hf1 : Fr No w ((w.alloc (.cells #[.int .i64 ocl, .int .i64 osq, .int .i64 okd, .string oac, .string ope, .int .i64 osm, v, .int .i64 opr, .int .i64 ohd, .string ont] 35)).alloc (.cells #[.int .i64 0, .int .i64 0, .int .i64 0, .int .i64 0] 29)) := ((Fr.refl _ _).alloc _).alloc _
  have hmp := h.mp
  have hlt : q.p < w.heap.size := h.blk.lt
  clear h hI hR hac hsm hpe hpr hhd hbo
  go_enter Tryz.func37, Tryz.ntmps37
  go_upto_region 1 with (fail)
  generalize ((w.alloc (.cells #[.int .i64 ocl, .int .i64 osq, .int .i64 okd, .string oac, .string ope, .int .i64 osm, v, .int .i64 opr, .int .i64 ohd, .string ont] 35)).alloc (.cells #[.int .i64 0, .int .i64 0, .int .i64 0, .int .i64 0] 29)) = w1 at *
  have HF1 := Lib.hid hf1
  have HBR := Lib.hid hbr
  have HX : Hid (∀ W, Fr (At3 q.m q.k (w.heap.size + 1)) w1 W → Fr (At3 q.m q.k (w.heap.size + 1)) w1 W ∧ W.cell? ⟨q.p, 0, none⟩ = some (.pointer (some ⟨q.c, 0, none⟩)) ∧ W.cell? ⟨q.p, 1, none⟩ = some (.pointer (some ⟨q.h, 0, none⟩)) ∧ W.cell? ⟨w.heap.size, 3, none⟩ = some (.string oac) ∧ W.cell? ⟨w.heap.size, 8, none⟩ = some (.int .i64 ohd)) := fun W hW => by
    have h1 := hbo1.fr hW (fun e => by rcases e with e | e | e; exact hfar _ (Nat.le_refl _) (.inl e); exact hfar _ (Nat.le_refl _) (.inr e); omega)
    have h2 := (hbk.fr hf1 (fun h => h)).fr hW (fun e => by rcases e with e | e | e; exact hmp.1 e.symm; exact hmp.2 e.symm; omega)
    exact ⟨hW, h2.cell 0, h2.cell 1, h1.cell 3, h1.cell 8⟩
  have HFAR := Lib.hid hfar
  have hw1 : Fr (At3 q.m q.k (w.heap.size + 1)) w1 w1.drew := (Fr.refl _ w1).drew
  clear hf1 hbr hbo1 hbk hfar hmp hlt
  go_region_held3 (fun W => Fr (At3 q.m q.k (w.heap.size + 1)) w1 W ∧ W.cell? ⟨q.p, 0, none⟩ = some (.pointer (some ⟨q.c, 0, none⟩)) ∧ W.cell? ⟨q.p, 1, none⟩ = some (.pointer (some ⟨q.h, 0, none⟩)) ∧ W.cell? ⟨w.heap.size, 3, none⟩ = some (.string oac) ∧ W.cell? ⟨w.heap.size, 8, none⟩ = some (.int .i64 ohd))
    (first
      | (refine HX.out _ ?_; with_reducible assumption)
      | (refine HX.out _ (Fr.trans ?_ ((fr_set4 _ _ _ _ _ _).mono fun _ _ h => .inr (.inr h))); with_reducible assumption))
    (first
      | (go_at_call 67; (with_reducible refine (HO.out _ (HF1.out.drew)).mono ?_); rintro e u1 ⟨rfl, hb1, hg⟩; have ka1 : Fr (At2 q.m q.k) w1 u1 := Fr.trans (Fr.refl _ w1).drew hg; have hg1 : Fr (At3 q.m q.k (w.heap.size + 1)) w1 u1 := ka1.mono (fun _ _ h => by rcases h with h | h; exact .inl h; exact .inr (.inl h)); clear hg)
      | (go_at_call 60; (with_reducible refine (HAB.out _ hb1).mono ?_); rintro e u2 ⟨rfl, hb2, hg⟩; have ka2 : Fr (At2 q.m q.k) w1 u2 := Fr.trans ka1 hg; have hg2 : Fr (At3 q.m q.k (w.heap.size + 1)) w1 u2 := ka2.mono (fun _ _ h => by rcases h with h | h; exact .inl h; exact .inr (.inl h)); clear hg; have hr2 := HBR.out.fr ka2 (HFAR.out _ (Nat.le_succ _)); have c0 := hr2.cell 0; have c1 := hr2.cell 1; have c2 := hr2.cell 2; have c3 := hr2.cell 3; have f0 := hr2.frozen 0; have f1 := hr2.frozen 1; have f2 := hr2.frozen 2; have f3 := hr2.frozen 3; simp only [List.getElem?_toArray, List.getElem?_cons_zero, List.getElem?_cons_succ] at c0 c1 c2 c3))
  all_goals
    have hd := blk_set4 hr2 (.int .i64 re) (.int .i64 rh) (.int .i64 rs) (.int .i64 rn)
    have HD := Lib.hid (did_of HH.out (Nat.le_succ _) HF1.out ka2 hb2 (fr_set4 u2 (w.heap.size + 1) (.int .i64 re) (.int .i64 rh) (.int .i64 rs) (.int .i64 rn)))
    clear c0 c1 c2 c3 f0 f1 f2 f3 hr2 HX
    generalize (((u2.setCell ⟨w.heap.size + 1, 0, none⟩ (.int .i64 re)).setCell ⟨w.heap.size + 1, 1, none⟩ (.int .i64 rh)).setCell ⟨w.heap.size + 1, 2, none⟩ (.int .i64 rs)).setCell ⟨w.heap.size + 1, 3, none⟩ (.int .i64 rn) = u3 at *
    have d0 := hd.cell 0
    have d1 := hd.cell 1
    have d2 := hd.cell 2
    have d3 := hd.cell 3
    simp only [List.getElem?_toArray, List.getElem?_cons_zero, List.getElem?_cons_succ] at d0 d1 d2 d3
    go_wp2
    refine bodyPost_ret (v := .agg #[.int .i64 re, .int .i64 rh, .int .i64 rs, .int .i64 rn]) (by simp [results, Tryz.results37, go_sem, d0, d1, d2, d3]) rfl ?_
    exact ⟨rfl, HD.out⟩
set_option maxRecDepth 100000 in
set_option maxHeartbeats 2000000 in
theorem bpost_any (q : Pl) (b : Bk) (o : Od) (v : Value) (w : World) (h : BkS w q b) (ho : o.ok) (hr : rightO o = true) (hk : o.kd = 2) (F : Nat → Prop) (hv : LgS w F v o.legs) (hF : ∀ k, F k → k < w.heap.size ∧ k ≠ q.m) (hll : o.legs.length ≤ 100) (hcl : ¬ o.per ≤ b.cl) :
    Calls Tryz.prog 34 #[.pointer (some ⟨q.p, 0, none⟩), o.val v] w (DidB q (effR b o) (effB b o) w) := by
  have hI := eff_inv h.inv ho hr
  have eB : effB b o = ⟨makeS b.S o.legs, b.H, b.cl⟩ := by unfold effB; rw [if_neg (show ¬ o.kd = 1 by omega), if_pos hk, if_neg hcl]
  have eR : effR b o = errR (checkE b.S o.legs) := by unfold effR; rw [if_neg (show ¬ o.kd = 1 by omega), if_pos hk, if_neg hcl]
  rw [eB] at hI
  rw [eB, eR]
  obtain ⟨-, -, -, hac, hpe, hsm, hpr, hhd, -⟩ := ho
  clear eB eR hr
  obtain ⟨ocl, osq, okd, oac, ope, osm, olg, opr, ohd, ont⟩ := o
  unfold Od.val Od.cs at *
  simp only at hac hpe hsm hpr hhd hI hcl hv hll ⊢
  clear hk
  have HH := Lib.hid h
  have HI := Lib.hid hI
  have HO : Hid (∀ W, Fr No w W → Calls Tryz.prog 63 #[.pointer (some ⟨q.c, 0, none⟩), v] W fun e w' => e = .returned (.int .i64 (checkE b.S olg)) ∧ BkS w' q ⟨makeS b.S olg, b.H, b.cl⟩ ∧ Fr (At2 q.m q.k) W w') := fun W hW =>
    by
    obtain ⟨A, c, cells, rfl, hrd, hE, h1, h2⟩ := hv.no hW
    exact (make_any q.c q.m b.S F A c cells olg W (h.ch.no hW) h.inv.st.kp.inv hrd (fun k hk => ⟨Nat.lt_of_lt_of_le (hF k hk).1 hW.size, (hF k hk).2⟩) hE hll).mono fun e w' hx => ⟨hx.1, (h.no hW).chart hx.2.1 hx.2.2 hI, hx.2.2.mono fun _ _ h => .inl h⟩
  generalize checkE b.S olg = E at *
  generalize makeS b.S olg = T at *
  have hfar : ∀ g, w.heap.size ≤ g → ¬ At2 q.m q.k g := fun g hg e => Pl.far h hg (by rcases e with e | e; exact .inr (.inl e); exact .inr (.inr e))
  have hbk := h.blk
  have hbo := Blk.new w 35 #[.int .i64 ocl, .int .i64 osq, .int .i64 okd, .string oac, .string ope, .int .i64 osm, v, .int .i64 opr, .int .i64 ohd, .string ont]
  have hbr := Blk.new (w.alloc (.cells #[.int .i64 ocl, .int .i64 osq, .int .i64 okd, .string oac, .string ope, .int .i64 osm, v, .int .i64 opr, .int .i64 ohd, .string ont] 35)) 29 #[.int .i64 0, .int .i64 0, .int .i64 0, .int .i64 0]
  rw [World.size_alloc] at hbr
  have hbo1 := hbo.alloc (.cells #[.int .i64 0, .int .i64 0, .int .i64 0, .int .i64 0] 29)
  have hf1 : Fr No w ((w.alloc (.cells #[.int .i64 ocl, .int .i64 osq, .int .i64 okd, .string oac, .string ope, .int .i64 osm, v, .int .i64 opr, .int .i64 ohd, .string ont] 35)).alloc (.cells #[.int .i64 0, .int .i64 0, .int .i64 0, .int .i64 0] 29)) := ((Fr.refl _ _).alloc _).alloc _
  have hmp := h.mp
  have hlt : q.p < w.heap.size := h.blk.lt
  have HCL : Hid (∀ W, Fr No w W → Calls Tryz.prog 62 #[.pointer (some ⟨q.p, 0, none⟩), .int .i64 opr] W fun e w' => e = .returned (.bool false) ∧ W = w') := fun W hW => by
    have hx := isClosed_any q b opr W (h.no hW)
    rw [decide_eq_false hcl] at hx
    exact hx
  clear hcl
  have o7 := hbo1.cell 7
  simp only [List.getElem?_toArray, List.getElem?_cons_zero, List.getElem?_cons_succ] at o7
  clear h hI hac hsm hpe hpr hhd hbo hv hF hll
  go_enter Tryz.func34, Tryz.ntmps34
  go_wp2_with fail
  (with_reducible refine (HCL.out _ (((Fr.refl _ _).alloc _).alloc _)).mono ?_)
  rintro e w0 ⟨rfl, rfl⟩
  clear HCL o7
  go_upto_region 3 with (fail)
  generalize ((w.alloc (.cells #[.int .i64 ocl, .int .i64 osq, .int .i64 okd, .string oac, .string ope, .int .i64 osm, v, .int .i64 opr, .int .i64 ohd, .string ont] 35)).alloc (.cells #[.int .i64 0, .int .i64 0, .int .i64 0, .int .i64 0] 29)) = w1 at *
  have HF1 := Lib.hid hf1
  have HBR := Lib.hid hbr
  have HX : Hid (∀ W, Fr (At3 q.m q.k (w.heap.size + 1)) w1 W → Fr (At3 q.m q.k (w.heap.size + 1)) w1 W ∧ W.cell? ⟨q.p, 0, none⟩ = some (.pointer (some ⟨q.c, 0, none⟩)) ∧ W.cell? ⟨q.p, 1, none⟩ = some (.pointer (some ⟨q.h, 0, none⟩)) ∧ W.cell? ⟨w.heap.size, 6, none⟩ = some (v)) := fun W hW => by
    have h1 := hbo1.fr hW (fun e => by rcases e with e | e | e; exact hfar _ (Nat.le_refl _) (.inl e); exact hfar _ (Nat.le_refl _) (.inr e); omega)
    have h2 := (hbk.fr hf1 (fun h => h)).fr hW (fun e => by rcases e with e | e | e; exact hmp.1 e.symm; exact hmp.2 e.symm; omega)
    exact ⟨hW, h2.cell 0, h2.cell 1, h1.cell 6⟩
  have HFAR := Lib.hid hfar
  have hw1 : Fr (At3 q.m q.k (w.heap.size + 1)) w1 w1.drew := (Fr.refl _ w1).drew
  clear hf1 hbr hbo1 hbk hfar hmp hlt
  go_region_held3 (fun W => Fr (At3 q.m q.k (w.heap.size + 1)) w1 W ∧ W.cell? ⟨q.p, 0, none⟩ = some (.pointer (some ⟨q.c, 0, none⟩)) ∧ W.cell? ⟨q.p, 1, none⟩ = some (.pointer (some ⟨q.h, 0, none⟩)) ∧ W.cell? ⟨w.heap.size, 6, none⟩ = some (v))
    (first
      | (refine HX.out _ ?_; with_reducible assumption)
      | (refine HX.out _ (Fr.trans ?_ ((fr_set4 _ _ _ _ _ _).mono fun _ _ h => .inr (.inr h))); with_reducible assumption))
    (first
      | (go_at_call 63; (with_reducible refine (HO.out _ (HF1.out.drew)).mono ?_); rintro e u2 ⟨rfl, hb2, hg⟩; have ka2 : Fr (At2 q.m q.k) w1 u2 := Fr.trans (Fr.refl _ w1).drew hg; have hg2 : Fr (At3 q.m q.k (w.heap.size + 1)) w1 u2 := ka2.mono (fun _ _ h => by rcases h with h | h; exact .inl h; exact .inr (.inl h)); clear hg; have hr2 := HBR.out.fr ka2 (HFAR.out _ (Nat.le_succ _)); have c0 := hr2.cell 0; have c1 := hr2.cell 1; have c2 := hr2.cell 2; have c3 := hr2.cell 3; have f0 := hr2.frozen 0; have f1 := hr2.frozen 1; have f2 := hr2.frozen 2; have f3 := hr2.frozen 3; simp only [List.getElem?_toArray, List.getElem?_cons_zero, List.getElem?_cons_succ] at c0 c1 c2 c3))
  all_goals
    have hd := blk_set4 hr2 (.int .i64 E) (.int .i64 0) (.int .i64 0) (.int .i64 0)
    have HD := Lib.hid (did_of HH.out (Nat.le_succ _) HF1.out ka2 hb2 (fr_set4 u2 (w.heap.size + 1) (.int .i64 E) (.int .i64 0) (.int .i64 0) (.int .i64 0)))
    clear c0 c1 c2 c3 f0 f1 f2 f3 hr2 HX
    generalize (((u2.setCell ⟨w.heap.size + 1, 0, none⟩ (.int .i64 E)).setCell ⟨w.heap.size + 1, 1, none⟩ (.int .i64 0)).setCell ⟨w.heap.size + 1, 2, none⟩ (.int .i64 0)).setCell ⟨w.heap.size + 1, 3, none⟩ (.int .i64 0) = u3 at *
    have d0 := hd.cell 0
    have d1 := hd.cell 1
    have d2 := hd.cell 2
    have d3 := hd.cell 3
    simp only [List.getElem?_toArray, List.getElem?_cons_zero, List.getElem?_cons_succ] at d0 d1 d2 d3
    go_wp2
    refine bodyPost_ret (v := .agg #[.int .i64 E, .int .i64 0, .int .i64 0, .int .i64 0]) (by simp [results, Tryz.results34, go_sem, d0, d1, d2, d3]) rfl ?_
    exact ⟨rfl, HD.out⟩
set_option maxRecDepth 100000 in
set_option maxHeartbeats 2000000 in
theorem bpost_closed (q : Pl) (b : Bk) (o : Od) (v : Value) (w : World) (h : BkS w q b) (hk : o.kd = 2) (hcl : o.per ≤ b.cl) :
    Calls Tryz.prog 34 #[.pointer (some ⟨q.p, 0, none⟩), o.val v] w (DidB q (effR b o) (effB b o) w) := by
  have eB : effB b o = b := by unfold effB; rw [if_neg (show ¬ o.kd = 1 by omega), if_pos hk, if_pos hcl]
  have eR : effR b o = errR 10 := by unfold effR; rw [if_neg (show ¬ o.kd = 1 by omega), if_pos hk, if_pos hcl]
  rw [eB, eR]
  clear eB eR hk
  obtain ⟨ocl, osq, okd, oac, ope, osm, olg, opr, ohd, ont⟩ := o
  unfold Od.val Od.cs at *
  simp only at hcl ⊢
  have HH := Lib.hid h
  have HCL : Hid (∀ W, Fr No w W → Calls Tryz.prog 62 #[.pointer (some ⟨q.p, 0, none⟩), .int .i64 opr] W fun e w' => e = .returned (.bool true) ∧ W = w') := fun W hW => by
    have hx := isClosed_any q b opr W (h.no hW)
    rw [decide_eq_true hcl] at hx
    exact hx
  have hbo := Blk.new w 35 #[.int .i64 ocl, .int .i64 osq, .int .i64 okd, .string oac, .string ope, .int .i64 osm, v, .int .i64 opr, .int .i64 ohd, .string ont]
  have hbr := Blk.new (w.alloc (.cells #[.int .i64 ocl, .int .i64 osq, .int .i64 okd, .string oac, .string ope, .int .i64 osm, v, .int .i64 opr, .int .i64 ohd, .string ont] 35)) 29 #[.int .i64 10, .int .i64 0, .int .i64 0, .int .i64 0]
  rw [World.size_alloc] at hbr
  have hbo1 := hbo.alloc (.cells #[.int .i64 0, .int .i64 0, .int .i64 0, .int .i64 0] 29)
  have o7 := hbo1.cell 7
  simp only [List.getElem?_toArray, List.getElem?_cons_zero, List.getElem?_cons_succ] at o7
  clear h hcl hbo hbo1
  go_enter Tryz.func34, Tryz.ntmps34
  go_wp2_with fail
  (with_reducible refine (HCL.out _ (((Fr.refl _ _).alloc _).alloc _)).mono ?_)
  rintro e w0 ⟨rfl, rfl⟩
  clear HCL o7
  have d0 := hbr.cell 0
  have d1 := hbr.cell 1
  have d2 := hbr.cell 2
  have d3 := hbr.cell 3
  simp only [List.getElem?_toArray, List.getElem?_cons_zero, List.getElem?_cons_succ] at d0 d1 d2 d3
  clear hbr
  go_wp2
  refine bodyPost_ret (v := .agg #[.int .i64 10, .int .i64 0, .int .i64 0, .int .i64 0]) (by simp [results, Tryz.results34, go_sem, d0, d1, d2, d3]) rfl ?_
  exact ⟨rfl, HH.out.no (((Fr.refl _ _).alloc _).alloc _), ((Fr.refl _ _).alloc _).alloc _⟩
set_option maxRecDepth 100000 in
set_option maxHeartbeats 2000000 in
theorem bcapture_closed (q : Pl) (b : Bk) (o : Od) (v : Value) (w : World) (h : BkS w q b) (hk : o.kd = 4) (hcl : o.per ≤ b.cl) :
    Calls Tryz.prog 36 #[.pointer (some ⟨q.p, 0, none⟩), o.val v] w (DidB q (effR b o) (effB b o) w) := by
  have eB : effB b o = b := by unfold effB; rw [if_neg (show ¬ o.kd = 1 by omega), if_neg (show ¬ o.kd = 2 by omega), if_neg (show ¬ o.kd = 3 by omega), if_pos hk, if_pos hcl]
  have eR : effR b o = errR 10 := by unfold effR; rw [if_neg (show ¬ o.kd = 1 by omega), if_neg (show ¬ o.kd = 2 by omega), if_neg (show ¬ o.kd = 3 by omega), if_pos hk, if_pos hcl]
  rw [eB, eR]
  clear eB eR hk
  obtain ⟨ocl, osq, okd, oac, ope, osm, olg, opr, ohd, ont⟩ := o
  unfold Od.val Od.cs at *
  simp only at hcl ⊢
  have HH := Lib.hid h
  have HCL : Hid (∀ W, Fr No w W → Calls Tryz.prog 62 #[.pointer (some ⟨q.p, 0, none⟩), .int .i64 opr] W fun e w' => e = .returned (.bool true) ∧ W = w') := fun W hW => by
    have hx := isClosed_any q b opr W (h.no hW)
    rw [decide_eq_true hcl] at hx
    exact hx
  have hbo := Blk.new w 35 #[.int .i64 ocl, .int .i64 osq, .int .i64 okd, .string oac, .string ope, .int .i64 osm, v, .int .i64 opr, .int .i64 ohd, .string ont]
  have hbr := Blk.new (w.alloc (.cells #[.int .i64 ocl, .int .i64 osq, .int .i64 okd, .string oac, .string ope, .int .i64 osm, v, .int .i64 opr, .int .i64 ohd, .string ont] 35)) 29 #[.int .i64 10, .int .i64 0, .int .i64 0, .int .i64 0]
  rw [World.size_alloc] at hbr
  have hbo1 := hbo.alloc (.cells #[.int .i64 0, .int .i64 0, .int .i64 0, .int .i64 0] 29)
  have o7 := hbo1.cell 7
  simp only [List.getElem?_toArray, List.getElem?_cons_zero, List.getElem?_cons_succ] at o7
  clear h hcl hbo hbo1
  go_enter Tryz.func36, Tryz.ntmps36
  go_wp2_with fail
  (with_reducible refine (HCL.out _ (((Fr.refl _ _).alloc _).alloc _)).mono ?_)
  rintro e w0 ⟨rfl, rfl⟩
  clear HCL o7
  have d0 := hbr.cell 0
  have d1 := hbr.cell 1
  have d2 := hbr.cell 2
  have d3 := hbr.cell 3
  simp only [List.getElem?_toArray, List.getElem?_cons_zero, List.getElem?_cons_succ] at d0 d1 d2 d3
  clear hbr
  go_wp2
  refine bodyPost_ret (v := .agg #[.int .i64 10, .int .i64 0, .int .i64 0, .int .i64 0]) (by simp [results, Tryz.results36, go_sem, d0, d1, d2, d3]) rfl ?_
  exact ⟨rfl, HH.out.no (((Fr.refl _ _).alloc _).alloc _), ((Fr.refl _ _).alloc _).alloc _⟩
set_option maxRecDepth 100000 in
set_option maxHeartbeats 2000000 in
theorem bclose_closed (q : Pl) (b : Bk) (o : Od) (v : Value) (w : World) (h : BkS w q b) (hk : o.kd = 6) (hcl : o.per ≤ b.cl) :
    Calls Tryz.prog 38 #[.pointer (some ⟨q.p, 0, none⟩), o.val v] w (DidB q (effR b o) (effB b o) w) := by
  have eB : effB b o = b := by unfold effB; rw [if_neg (show ¬ o.kd = 1 by omega), if_neg (show ¬ o.kd = 2 by omega), if_neg (show ¬ o.kd = 3 by omega), if_neg (show ¬ o.kd = 4 by omega), if_neg (show ¬ o.kd = 5 by omega), if_pos hk, if_pos hcl]
  have eR : effR b o = errR 10 := by unfold effR; rw [if_neg (show ¬ o.kd = 1 by omega), if_neg (show ¬ o.kd = 2 by omega), if_neg (show ¬ o.kd = 3 by omega), if_neg (show ¬ o.kd = 4 by omega), if_neg (show ¬ o.kd = 5 by omega), if_pos hk, if_pos hcl]
  rw [eB, eR]
  clear eB eR hk
  obtain ⟨ocl, osq, okd, oac, ope, osm, olg, opr, ohd, ont⟩ := o
  unfold Od.val Od.cs at *
  simp only at hcl ⊢
  have HH := Lib.hid h
  have HCL : Hid (∀ W, Fr No w W → Calls Tryz.prog 62 #[.pointer (some ⟨q.p, 0, none⟩), .int .i64 opr] W fun e w' => e = .returned (.bool true) ∧ W = w') := fun W hW => by
    have hx := isClosed_any q b opr W (h.no hW)
    rw [decide_eq_true hcl] at hx
    exact hx
  have hbo := Blk.new w 35 #[.int .i64 ocl, .int .i64 osq, .int .i64 okd, .string oac, .string ope, .int .i64 osm, v, .int .i64 opr, .int .i64 ohd, .string ont]
  have hbr := Blk.new (w.alloc (.cells #[.int .i64 ocl, .int .i64 osq, .int .i64 okd, .string oac, .string ope, .int .i64 osm, v, .int .i64 opr, .int .i64 ohd, .string ont] 35)) 29 #[.int .i64 10, .int .i64 0, .int .i64 0, .int .i64 0]
  rw [World.size_alloc] at hbr
  have hbo1 := hbo.alloc (.cells #[.int .i64 0, .int .i64 0, .int .i64 0, .int .i64 0] 29)
  have o7 := hbo1.cell 7
  simp only [List.getElem?_toArray, List.getElem?_cons_zero, List.getElem?_cons_succ] at o7
  clear h hcl hbo hbo1
  go_enter Tryz.func38, Tryz.ntmps38
  go_wp2_with fail
  (with_reducible refine (HCL.out _ (((Fr.refl _ _).alloc _).alloc _)).mono ?_)
  rintro e w0 ⟨rfl, rfl⟩
  clear HCL o7
  have d0 := hbr.cell 0
  have d1 := hbr.cell 1
  have d2 := hbr.cell 2
  have d3 := hbr.cell 3
  simp only [List.getElem?_toArray, List.getElem?_cons_zero, List.getElem?_cons_succ] at d0 d1 d2 d3
  clear hbr
  go_wp2
  refine bodyPost_ret (v := .agg #[.int .i64 10, .int .i64 0, .int .i64 0, .int .i64 0]) (by simp [results, Tryz.results38, go_sem, d0, d1, d2, d3]) rfl ?_
  exact ⟨rfl, HH.out.no (((Fr.refl _ _).alloc _).alloc _), ((Fr.refl _ _).alloc _).alloc _⟩
set_option maxRecDepth 100000 in
set_option maxHeartbeats 2000000 in
theorem bask_any (q : Pl) (b : Bk) (o : Od) (v : Value) (w : World) (h : BkS w q b) (ho : o.ok) (hk : o.kd = 7) :
    Calls Tryz.prog 39 #[.pointer (some ⟨q.p, 0, none⟩), o.val v] w (DidB q (effR b o) (effB b o) w) := by
  have eB : effB b o = b := by unfold effB; rw [if_neg (show ¬ o.kd = 1 by omega), if_neg (show ¬ o.kd = 2 by omega), if_neg (show ¬ o.kd = 3 by omega), if_neg (show ¬ o.kd = 4 by omega), if_neg (show ¬ o.kd = 5 by omega), if_neg (show ¬ o.kd = 6 by omega)]
  have eR : effR b o = aboutR b.S o.an 0 := by unfold effR; rw [if_neg (show ¬ o.kd = 1 by omega), if_neg (show ¬ o.kd = 2 by omega), if_neg (show ¬ o.kd = 3 by omega), if_neg (show ¬ o.kd = 4 by omega), if_neg (show ¬ o.kd = 5 by omega), if_neg (show ¬ o.kd = 6 by omega)]
  rw [eB, eR]
  obtain ⟨-, -, -, hac, -⟩ := ho
  clear eB eR hk
  obtain ⟨ocl, osq, okd, oac, ope, osm, olg, opr, ohd, ont⟩ := o
  unfold Od.val Od.cs Od.an at *
  simp only at hac ⊢
  obtain ⟨re, rh, rs, rn, hR⟩ : ∃ a b' c d, aboutR b.S oac.data.toList 0 = ⟨a, b', c, d⟩ := ⟨_, _, _, _, rfl⟩
  have HAB : Hid (∀ W, Fr No w W → Calls Tryz.prog 60 #[.pointer (some ⟨q.p, 0, none⟩), .string oac, .int .i64 0] W fun e w' => e = .returned (.agg #[.int .i64 re, .int .i64 rh, .int .i64 rs, .int .i64 rn]) ∧ BkS w' q b ∧ Fr (At1 q.m) W w') := fun W hW => by
    have hx := about_any q b oac 0 W (h.no hW) hac
    rw [hR] at hx
    exact hx
  rw [hR]
  have HH := Lib.hid h
  have hml := h.ch.2.lt
  have hbo := Blk.new w 35 #[.int .i64 ocl, .int .i64 osq, .int .i64 okd, .string oac, .string ope, .int .i64 osm, v, .int .i64 opr, .int .i64 ohd, .string ont]
  have hbr := Blk.new (w.alloc (.cells #[.int .i64 ocl, .int .i64 osq, .int .i64 okd, .string oac, .string ope, .int .i64 osm, v, .int .i64 opr, .int .i64 ohd, .string ont] 35)) 29 #[.int .i64 0, .int .i64 0, .int .i64 0, .int .i64 0]
  rw [World.size_alloc] at hbr
  have hbo1 := hbo.alloc (.cells #[.int .i64 0, .int .i64 0, .int .i64 0, .int .i64 0] 29)
  have hf1 : Fr No w ((w.alloc (.cells #[.int .i64 ocl, .int .i64 osq, .int .i64 okd, .string oac, .string ope, .int .i64 osm, v, .int .i64 opr, .int .i64 ohd, .string ont] 35)).alloc (.cells #[.int .i64 0, .int .i64 0, .int .i64 0, .int .i64 0] 29)) := ((Fr.refl _ _).alloc _).alloc _
  have o3 := hbo1.cell 3
  simp only [List.getElem?_toArray, List.getElem?_cons_zero, List.getElem?_cons_succ] at o3
  clear h hbo hbo1 hac hR
  go_enter Tryz.func39, Tryz.ntmps39
  go_wp2_with fail
  (with_reducible refine (HAB.out _ (((Fr.refl _ _).alloc _).alloc _)).mono ?_)
  generalize ((w.alloc (.cells #[.int .i64 ocl, .int .i64 osq, .int .i64 okd, .string oac, .string ope, .int .i64 osm, v, .int .i64 opr, .int .i64 ohd, .string ont] 35)).alloc (.cells #[.int .i64 0, .int .i64 0, .int .i64 0, .int .i64 0] 29)) = w1 at *
  rintro e u2 ⟨rfl, hb2, hg⟩
  have hr2 := hbr.fr hg (fun e => by have : w.heap.size + 1 = q.m := e; omega)
  have hd := blk_set4 hr2 (.int .i64 re) (.int .i64 rh) (.int .i64 rs) (.int .i64 rn)
  have HD := Lib.hid (did_of HH.out (Nat.le_succ _) hf1 (hg.mono fun _ _ h => .inl h) hb2 (fr_set4 u2 (w.heap.size + 1) (.int .i64 re) (.int .i64 rh) (.int .i64 rs) (.int .i64 rn)))
  have HDD := Lib.hid hd
  have c0 := hr2.cell 0
  have c1 := hr2.cell 1
  have c2 := hr2.cell 2
  have c3 := hr2.cell 3
  have f0 := hr2.frozen 0
  have f1 := hr2.frozen 1
  have f2 := hr2.frozen 2
  have f3 := hr2.frozen 3
  simp only [List.getElem?_toArray, List.getElem?_cons_zero, List.getElem?_cons_succ] at c0 c1 c2 c3
  clear HAB o3 hbr hf1 hg hr2 hb2 hd
  go_wp2
  have hd := HDD.out
  have d0 := hd.cell 0
  have d1 := hd.cell 1
  have d2 := hd.cell 2
  have d3 := hd.cell 3
  simp only [List.getElem?_toArray, List.getElem?_cons_zero, List.getElem?_cons_succ] at d0 d1 d2 d3
  refine bodyPost_ret (v := .agg #[.int .i64 re, .int .i64 rh, .int .i64 rs, .int .i64 rn]) (by simp [results, Tryz.results39, go_sem, d0, d1, d2, d3]) rfl ?_
  exact ⟨rfl, HD.out⟩
set_option maxRecDepth 100000 in
set_option maxHeartbeats 2000000 in
theorem bclose_any (q : Pl) (b : Bk) (o : Od) (v : Value) (w : World) (h : BkS w q b) (ho : o.ok) (hr : rightO o = true) (hk : o.kd = 6) (hcl : ¬ o.per ≤ b.cl) :
    Calls Tryz.prog 38 #[.pointer (some ⟨q.p, 0, none⟩), o.val v] w (DidB q (effR b o) (effB b o) w) := by
  have hI := eff_inv h.inv ho hr
  have eB : effB b o = ⟨b.S, b.H, o.per⟩ := by unfold effB; rw [if_neg (show ¬ o.kd = 1 by omega), if_neg (show ¬ o.kd = 2 by omega), if_neg (show ¬ o.kd = 3 by omega), if_neg (show ¬ o.kd = 4 by omega), if_neg (show ¬ o.kd = 5 by omega), if_pos hk, if_neg hcl]
  have eR : effR b o = ⟨0, 0, 0, o.per⟩ := by unfold effR; rw [if_neg (show ¬ o.kd = 1 by omega), if_neg (show ¬ o.kd = 2 by omega), if_neg (show ¬ o.kd = 3 by omega), if_neg (show ¬ o.kd = 4 by omega), if_neg (show ¬ o.kd = 5 by omega), if_pos hk, if_neg hcl]
  rw [eB] at hI
  rw [eB, eR]
  clear eB eR hk hr ho
  obtain ⟨ocl, osq, okd, oac, ope, osm, olg, opr, ohd, ont⟩ := o
  unfold Od.val Od.cs at *
  simp only at hcl hI ⊢
  have HH := Lib.hid h
  have HI := Lib.hid hI
  have HCL : Hid (∀ W, Fr No w W → Calls Tryz.prog 62 #[.pointer (some ⟨q.p, 0, none⟩), .int .i64 opr] W fun e w' => e = .returned (.bool false) ∧ W = w') := fun W hW => by
    have hx := isClosed_any q b opr W (h.no hW)
    rw [decide_eq_false hcl] at hx
    exact hx
  have hbo := Blk.new w 35 #[.int .i64 ocl, .int .i64 osq, .int .i64 okd, .string oac, .string ope, .int .i64 osm, v, .int .i64 opr, .int .i64 ohd, .string ont]
  have hbr := Blk.new (w.alloc (.cells #[.int .i64 ocl, .int .i64 osq, .int .i64 okd, .string oac, .string ope, .int .i64 osm, v, .int .i64 opr, .int .i64 ohd, .string ont] 35)) 29 #[.int .i64 0, .int .i64 0, .int .i64 0, .int .i64 0]
  rw [World.size_alloc] at hbr
  have hbo1 := hbo.alloc (.cells #[.int .i64 0, .int .i64 0, .int .i64 0, .int .i64 0] 29)
  have hf1 : Fr No w ((w.alloc (.cells #[.int .i64 ocl, .int .i64 osq, .int .i64 okd, .string oac, .string ope, .int .i64 osm, v, .int .i64 opr, .int .i64 ohd, .string ont] 35)).alloc (.cells #[.int .i64 0, .int .i64 0, .int .i64 0, .int .i64 0] 29)) := ((Fr.refl _ _).alloc _).alloc _
  have hbk := h.blk.fr hf1 (fun h => h)
  have hpl := h.blk.lt
  clear h hI hcl hbo
  have o7 := hbo1.cell 7
  simp only [List.getElem?_toArray, List.getElem?_cons_zero, List.getElem?_cons_succ] at o7
  go_enter Tryz.func38, Tryz.ntmps38
  go_wp2_with fail
  (with_reducible refine (HCL.out _ (((Fr.refl _ _).alloc _).alloc _)).mono ?_)
  rintro e w0 ⟨rfl, rfl⟩
  generalize ((w.alloc (.cells #[.int .i64 ocl, .int .i64 osq, .int .i64 okd, .string oac, .string ope, .int .i64 osm, v, .int .i64 opr, .int .i64 ohd, .string ont] 35)).alloc (.cells #[.int .i64 0, .int .i64 0, .int .i64 0, .int .i64 0] 29)) = w1 at *
  have b2 := hbk.cell 2
  have fb2 := hbk.frozen 2
  have r0 := hbr.cell 0
  have r1 := hbr.cell 1
  have r2 := hbr.cell 2
  have r3 := hbr.cell 3
  have f0 := hbr.frozen 0
  have f1 := hbr.frozen 1
  have f2 := hbr.frozen 2
  have f3 := hbr.frozen 3
  simp only [List.getElem?_toArray, List.getElem?_cons_zero, List.getElem?_cons_succ] at b2 r0 r1 r2 r3
  have hne : w.heap.size ≠ q.p := by omega
  have hne2 : w.heap.size + 1 ≠ q.p := by omega
  have hA := fr_set w1 q.p 2 (.int .i64 opr)
  have hrA := hbr.fr hA (fun e => hne2 e)
  have hd := blk_set4 hrA (.int .i64 0) (.int .i64 0) (.int .i64 0) (.int .i64 opr)
  have hB := fr_set4 (w1.setCell ⟨q.p, 2, none⟩ (.int .i64 opr)) (w.heap.size + 1) (.int .i64 0) (.int .i64 0) (.int .i64 0) (.int .i64 opr)
  have HBK : Hid (BkS (((((w1.setCell ⟨q.p, 2, none⟩ (.int .i64 opr)).setCell ⟨w.heap.size + 1, 0, none⟩ (.int .i64 0)).setCell ⟨w.heap.size + 1, 1, none⟩ (.int .i64 0)).setCell ⟨w.heap.size + 1, 2, none⟩ (.int .i64 0)).setCell ⟨w.heap.size + 1, 3, none⟩ (.int .i64 opr)) q ⟨b.S, b.H, opr⟩ ∧ Fr q.wr w (((((w1.setCell ⟨q.p, 2, none⟩ (.int .i64 opr)).setCell ⟨w.heap.size + 1, 0, none⟩ (.int .i64 0)).setCell ⟨w.heap.size + 1, 1, none⟩ (.int .i64 0)).setCell ⟨w.heap.size + 1, 2, none⟩ (.int .i64 0)).setCell ⟨w.heap.size + 1, 3, none⟩ (.int .i64 opr))) := by
    have h1 := HH.out.no hf1
    have hA1 : BkS (w1.setCell ⟨q.p, 2, none⟩ (.int .i64 opr)) q ⟨b.S, b.H, opr⟩ :=
      ⟨h1.blk.set_ 2 (.int .i64 opr), h1.ch.fr hA (fun e => Blk.ne_ h1.ch.1 h1.blk (by decide) e) (fun e => h1.mp.1 e), h1.hd.fr hA (fun e => Blk.ne_ h1.hd.1 h1.blk (by decide) e) (fun e => h1.mp.2 e), h1.ne, HI.out⟩
    refine ⟨hA1.fr hB fun i hi e => ?_, ((hf1.mono (T := q.wr) fun _ _ h => False.elim h).trans (hA.mono fun _ _ h => .inl h)).trans' hB fun i hi hlt => ?_⟩
    · have := HH.out.lt i hi
      have : i = w.heap.size + 1 := e
      omega
    · have : i = w.heap.size + 1 := hi
      omega
  have HDD := Lib.hid hd
  have o7b := (hbo1.fr hA (fun e => hne e)).cell 7
  simp only [List.getElem?_toArray, List.getElem?_cons_zero, List.getElem?_cons_succ] at o7b
  clear hA hB hd hrA hbo1 hbk hbr hf1 HCL
  go_wp2
  have hd := HDD.out
  have d0 := hd.cell 0
  have d1 := hd.cell 1
  have d2 := hd.cell 2
  have d3 := hd.cell 3
  simp only [List.getElem?_toArray, List.getElem?_cons_zero, List.getElem?_cons_succ] at d0 d1 d2 d3
  refine bodyPost_ret (v := .agg #[.int .i64 0, .int .i64 0, .int .i64 0, .int .i64 opr]) (by simp [results, Tryz.results38, go_sem, d0, d1, d2, d3]) rfl ?_
  exact ⟨rfl, HBK.out⟩
end Go.Proofs.YtgklifbfbjdobaaGreat

namespace Go.Proofs.YtgklifbfbjdobaaGreat
open Go.RowKit Go.My Go.Maps
set_option linter.unusedSimpArgs false
set_option linter.unusedVariables false
attribute [local go_sem ↓] Go.wp_at_zero Go.wp_at_succ

theorem keep_set4 {S : Nat → Prop} {w1 u : World} {g : Nat} {a b c d : Value} (h : Fr S w1 u) (hg : w1.heap.size ≤ g) : Fr S w1 ((((u.setCell ⟨g, 0, none⟩ a).setCell ⟨g, 1, none⟩ b).setCell ⟨g, 2, none⟩ c).setCell ⟨g, 3, none⟩ d) :=
  h.trans' (fr_set4 u g a b c d) fun i hi hlt => by
    have : i = g := hi
    omega
theorem did_tail {q : Pl} {b b' : Bk} {w u V W : World} {g r : Nat} (hq : BkS w q b) (h : BkS u q b' ∧ Fr q.wr w u) (hB : Fr (At1 g) u V) (hC : Fr (At1 r) V W) (hg : w.heap.size ≤ g) (hr : w.heap.size ≤ r) : BkS W q b' ∧ Fr q.wr w W := by
  refine ⟨(h.1.fr hB fun i hi e => ?_).fr hC fun i hi e => ?_, (h.2.trans' hB fun i hi hlt => ?_).trans' hC fun i hi hlt => ?_⟩
  · have := hq.lt i hi
    have : i = g := e
    omega
  · have := hq.lt i hi
    have : i = r := e
    omega
  · have : i = g := hi
    omega
  · have : i = r := hi
    omega
set_option maxRecDepth 100000 in
set_option maxHeartbeats 2000000 in
theorem bhold_any (q : Pl) (b : Bk) (o : Od) (v : Value) (w : World) (h : BkS w q b) (ho : o.ok) (hr : rightO o = true) (hk : o.kd = 3) :
    Calls Tryz.prog 35 #[.pointer (some ⟨q.p, 0, none⟩), o.val v] w (DidB q (effR b o) (effB b o) w) := by
  have hI := eff_inv h.inv ho hr
  have eB : effB b o = ⟨putSS b.S b.H (numO o) o.an o.sum, putHH b.S b.H (numO o) o.an o.sum, b.cl⟩ := by unfold effB; rw [if_neg (show ¬ o.kd = 1 by omega), if_neg (show ¬ o.kd = 2 by omega), if_pos hk]
  have eR : effR b o = numR (aboutR (putSS b.S b.H (numO o) o.an o.sum) o.an (putE b.S b.H (numO o) o.an o.sum)) (numO o) := by unfold effR; rw [if_neg (show ¬ o.kd = 1 by omega), if_neg (show ¬ o.kd = 2 by omega), if_pos hk]
  rw [eB] at hI
  rw [eB, eR]
  obtain ⟨-, hid, -, -⟩ := right_kd hr
  have hnum := numO_eq hid
  obtain ⟨-, -, -, hac, hpe, hsm, hpr, hhd, -⟩ := ho
  clear eB eR hr hk
  have HNM : Hid (∀ W, Calls Tryz.prog 64 #[.agg #[.int .i64 o.cl, .int .i64 o.sq]] W fun e w' => e = .returned (.int .i64 (numO o)) ∧ Fr No W w') := fun W => by
    rw [hnum]
    exact number_any _ _ ⟨hid.1, hid.2.1⟩ hid.2.2 W
  have hni : In64 (numO o) := by rw [hnum]; unfold In64; omega
  clear hnum hid
  generalize numO o = num at *
  obtain ⟨ocl, osq, okd, oac, ope, osm, olg, opr, ohd, ont⟩ := o
  unfold Od.val Od.cs Od.an at *
  simp only at hac hpe hsm hpr hhd hI HNM ⊢
  have HH := Lib.hid h
  have HI := Lib.hid hI
  have HO : Hid (∀ W, Fr No w W → Calls Tryz.prog 65 #[.pointer (some ⟨q.h, 0, none⟩), .pointer (some ⟨q.c, 0, none⟩), .agg #[.int .i64 num, .string oac, .int .i64 osm]] W fun e w' => e = .returned (.int .i64 (putE b.S b.H num oac.data.toList osm)) ∧ BkS w' q ⟨putSS b.S b.H num oac.data.toList osm, putHH b.S b.H num oac.data.toList osm, b.cl⟩ ∧ Fr (At2 q.m q.k) W w') := fun W hW =>
    (put_any q.c q.m q.h q.k b.S b.H oac num osm W (h.ch.no hW) h.inv.st.kp.inv (h.hd.no hW) (by have := h.inv.st.len; omega) h.ne hac hni hsm).mono fun e w' hx => ⟨hx.ret, (h.no hW).both hx hI, hx.fr⟩
  generalize putE b.S b.H num oac.data.toList osm = E at *
  generalize putSS b.S b.H num oac.data.toList osm = T at *
  generalize putHH b.S b.H num oac.data.toList osm = T2 at *
  obtain ⟨re, rh, rs, rn, hR⟩ : ∃ a b c d, aboutR T oac.data.toList E = ⟨a, b, c, d⟩ := ⟨_, _, _, _, rfl⟩
  have HAB : Hid (∀ W, BkS W q ⟨T, T2, b.cl⟩ → Calls Tryz.prog 60 #[.pointer (some ⟨q.p, 0, none⟩), .string oac, .int .i64 E] W fun e w' => e = .returned (.agg #[.int .i64 re, .int .i64 rh, .int .i64 rs, .int .i64 rn]) ∧ BkS w' q ⟨T, T2, b.cl⟩ ∧ Fr (At2 q.m q.k) W w') := fun W hW => by
    have hx := about_any q ⟨T, T2, b.cl⟩ oac E W hW hac
    rw [hR] at hx
    exact hx.mono fun e w' h => ⟨h.1, h.2.1, h.2.2.mono fun _ _ h => .inl h⟩
  rw [hR]
  have hfar : ∀ g, w.heap.size ≤ g → ¬ At2 q.m q.k g := fun g hg e => Pl.far h hg (by rcases e with e | e; exact .inr (.inl e); exact .inr (.inr e))
  have hbk := h.blk
  have hbo := Blk.new w 35 #[.int .i64 ocl, .int .i64 osq, .int .i64 okd, .string oac, .string ope, .int .i64 osm, v, .int .i64 opr, .int .i64 ohd, .string ont]
  have hbr := Blk.new (w.alloc (.cells #[.int .i64 ocl, .int .i64 osq, .int .i64 okd, .string oac, .string ope, .int .i64 osm, v, .int .i64 opr, .int .i64 ohd, .string ont] 35)) 29 #[.int .i64 0, .int .i64 0, .int .i64 0, .int .i64 0]
  rw [World.size_alloc] at hbr
  have hbo1 := hbo.alloc (.cells #[.int .i64 0, .int .i64 0, .int .i64 0, .int .i64 0] 29)
  have hf1 : Fr No w ((w.alloc (.cells #[.int .i64 ocl, .int .i64 osq, .int .i64 okd, .string oac, .string ope, .int .i64 osm, v, .int .i64 opr, .int .i64 ohd, .string ont] 35)).alloc (.cells #[.int .i64 0, .int .i64 0, .int .i64 0, .int .i64 0] 29)) := ((Fr.refl _ _).alloc _).alloc _
  have hmp := h.mp
  have hlt : q.p < w.heap.size := h.blk.lt
  have o0 := hbo1.cell 0
  have o1 := hbo1.cell 1
  simp only [List.getElem?_toArray, List.getElem?_cons_zero, List.getElem?_cons_succ] at o0 o1
  clear h hI hR hac hsm hpe hpr hhd hbo hni
  go_enter Tryz.func35, Tryz.ntmps35
  go_wp2_with fail
  (with_reducible refine (HNM.out _).mono ?_)
  rintro e w1 ⟨rfl, hg0⟩
  have hf1 := hf1.trans hg0
  have hbo1 := hbo1.fr hg0 (fun h => h)
  have hbr := hbr.fr hg0 (fun h => h)
  clear hg0 HNM o0 o1
  go_upto_region 2 with (fail)
  have hsz : w.heap.size + 1 < w1.heap.size := hbr.lt
  have HF1 := Lib.hid hf1
  have HBR := Lib.hid hbr
  have HX : Hid (∀ W, Fr (At2 q.m q.k) w1 W → Fr (At2 q.m q.k) w1 W ∧ W.cell? ⟨q.p, 0, none⟩ = some (.pointer (some ⟨q.c, 0, none⟩)) ∧ W.cell? ⟨q.p, 1, none⟩ = some (.pointer (some ⟨q.h, 0, none⟩)) ∧ W.cell? ⟨w.heap.size, 3, none⟩ = some (.string oac) ∧ W.cell? ⟨w.heap.size, 5, none⟩ = some (.int .i64 osm)) := fun W hW => by
    have h1 := hbo1.fr hW (hfar _ (Nat.le_refl _))
    have h2 := (hbk.fr hf1 (fun h => h)).fr hW (fun e => by rcases e with e | e; exact hmp.1 e.symm; exact hmp.2 e.symm)
    exact ⟨hW, h2.cell 0, h2.cell 1, h1.cell 3, h1.cell 5⟩
  have HFAR := Lib.hid hfar
  have hw1 : Fr (At2 q.m q.k) w1 w1.drew := (Fr.refl _ w1).drew
  clear hf1 hbr hbo1 hbk hfar hmp hlt
  go_region_held3 (fun W => Fr (At2 q.m q.k) w1 W ∧ W.cell? ⟨q.p, 0, none⟩ = some (.pointer (some ⟨q.c, 0, none⟩)) ∧ W.cell? ⟨q.p, 1, none⟩ = some (.pointer (some ⟨q.h, 0, none⟩)) ∧ W.cell? ⟨w.heap.size, 3, none⟩ = some (.string oac) ∧ W.cell? ⟨w.heap.size, 5, none⟩ = some (.int .i64 osm))
    (first
      | (refine HX.out _ ?_; with_reducible assumption)
      | (refine HX.out _ (Fr.alloc ?_ _); with_reducible assumption)
      | (refine HX.out _ (Fr.drew (Fr.alloc ?_ _)); with_reducible first | assumption | exact Fr.refl _ w1)
      | (refine HX.out _ (keep_set4 (by with_reducible assumption) (by first | with_reducible assumption | omega))))
    (first
      | (go_at_call 65; (with_reducible refine (HO.out _ ((HF1.out.alloc _).drew)).mono ?_); rintro e u1 ⟨rfl, hb1, hg⟩; have ka1 : Fr (At2 q.m q.k) w1 u1 := Fr.trans ((Fr.refl _ w1).alloc _).drew hg; have hz1 := Blk.fr (Blk.new w1 29 #[.int .i64 0, .int .i64 0, .int .i64 0, .int .i64 0]).drew hg (HFAR.out _ (by omega)); clear hg)
      | (go_at_call 65; (with_reducible refine (HO.out _ HF1.out.drew).mono ?_); rintro e u1 ⟨rfl, hb1, hg⟩; have ka1 : Fr (At2 q.m q.k) w1 u1 := Fr.trans (Fr.refl _ w1).drew hg; clear hg)
      | (go_at_call 60; (with_reducible refine (HAB.out _ hb1).mono ?_); rintro e u2 ⟨rfl, hb2, hg⟩; have ka2 : Fr (At2 q.m q.k) w1 u2 := Fr.trans ka1 hg; have hz2 := Blk.fr hz1 hg (HFAR.out _ (by omega)); clear hg; have y0 := hz2.cell 0; have y1 := hz2.cell 1; have y2 := hz2.cell 2; have y3 := hz2.cell 3; have z0 := hz2.frozen 0; have z1 := hz2.frozen 1; have z2 := hz2.frozen 2; have z3 := hz2.frozen 3; simp only [List.getElem?_toArray, List.getElem?_cons_zero, List.getElem?_cons_succ] at y0 y1 y2 y3; have hzl := hz2.lt)
      | (go_at_call 60; (with_reducible refine (HAB.out _ (hb1.no ((Fr.refl _ _).alloc _))).mono ?_); rintro e u2 ⟨rfl, hb2, hg⟩; have ka2 : Fr (At2 q.m q.k) w1 u2 := Fr.trans (ka1.alloc _) hg; have hu1 := ka1.size; have hz2 := Blk.fr (Blk.new u1 29 #[.int .i64 0, .int .i64 0, .int .i64 0, .int .i64 0]) hg (HFAR.out _ (by omega)); clear hg; have y0 := hz2.cell 0; have y1 := hz2.cell 1; have y2 := hz2.cell 2; have y3 := hz2.cell 3; have z0 := hz2.frozen 0; have z1 := hz2.frozen 1; have z2 := hz2.frozen 2; have z3 := hz2.frozen 3; simp only [List.getElem?_toArray, List.getElem?_cons_zero, List.getElem?_cons_succ] at y0 y1 y2 y3; have hzl := hz2.lt)
      | (go_at_call 60; (with_reducible refine (HAB.out _ hb1).mono ?_); rintro e u2 ⟨rfl, hb2, hg⟩; have ka2 : Fr (At2 q.m q.k) w1 u2 := Fr.trans ka1 hg; clear hg))
  · have hx : Blk (u2.alloc (.cells #[.int .i64 re, .int .i64 rh, .int .i64 rs, .int .i64 rn] 29)) u2.heap.size 29 #[.int .i64 re, .int .i64 rh, .int .i64 rs, .int .i64 rn] := Blk.new u2 29 _
    have hr := (HBR.out.fr ka2 (HFAR.out _ (by omega))).alloc (.cells #[.int .i64 re, .int .i64 rh, .int .i64 rs, .int .i64 rn] 29)
    have hgg : w.heap.size + 1 < u2.heap.size := by have := ka2.size; omega
    have HU := Lib.hid (did_of HH.out (g := u2.heap.size) (by omega) HF1.out ka2 hb2 ((Fr.refl _ u2).alloc (.cells #[.int .i64 re, .int .i64 rh, .int .i64 rs, .int .i64 rn] 29)))
    clear HX HFAR HAB HO hw1 HBR HF1
    generalize u2.alloc (.cells #[.int .i64 re, .int .i64 rh, .int .i64 rs, .int .i64 rn] 29) = u3 at *
    clear ka1 ka2 hb1 hb2
    try clear y0 y1 y2 y3 z0 z1 z2 z3 hz2 hzl
    try clear hz1
    try clear hu1
    generalize u2.heap.size = g at *
    by_cases h0 : re = 0
    · subst h0
      have hB := fr_set u3 g 3 (.int .i64 num)
      have hy := hx.set_ 3 (.int .i64 num)
      have hyr := hr.fr hB (fun e => by have : w.heap.size + 1 = g := e; omega)
      have hd := blk_set4 hyr (.int .i64 0) (.int .i64 rh) (.int .i64 rs) (.int .i64 num)
      have hC := fr_set4 (u3.setCell ⟨g, 3, none⟩ (.int .i64 num)) (w.heap.size + 1) (.int .i64 0) (.int .i64 rh) (.int .i64 rs) (.int .i64 num)
      have HD := Lib.hid (did_tail HH.out HU.out hB hC (by omega) (by omega))
      have HDD := Lib.hid hd
      have x0 := hx.cell 0
      have x3 := hx.cell 3
      have g3 := hx.frozen 3
      have y0 := hy.cell 0
      have y1 := hy.cell 1
      have y2 := hy.cell 2
      have y3 := hy.cell 3
      have r0 := hr.cell 0
      have r1 := hr.cell 1
      have r2 := hr.cell 2
      have r3 := hr.cell 3
      have f0 := hr.frozen 0
      have f1 := hr.frozen 1
      have f2 := hr.frozen 2
      have f3 := hr.frozen 3
      have hne : ¬ g = w.heap.size + 1 := by omega
      have hne' : ¬ w.heap.size + 1 = g := by omega
      simp only [List.getElem?_toArray, List.getElem?_cons_zero, List.getElem?_cons_succ, List.setIfInBounds_toArray, List.set_cons_succ, List.set_cons_zero] at x0 x3 y0 y1 y2 y3 r0 r1 r2 r3
      clear hx hr hy hyr hd hB hC HU
      go_wp2
      have hd := HDD.out
      have d0 := hd.cell 0
      have d1 := hd.cell 1
      have d2 := hd.cell 2
      have d3 := hd.cell 3
      simp only [List.getElem?_toArray, List.getElem?_cons_zero, List.getElem?_cons_succ] at d0 d1 d2 d3
      refine bodyPost_ret (v := .agg #[.int .i64 0, .int .i64 rh, .int .i64 rs, .int .i64 num]) (by simp [results, Tryz.results35, go_sem, d0, d1, d2, d3]) rfl ?_
      exact ⟨by unfold numR; rw [if_pos rfl]; rfl, HD.out⟩
    · have hz : (re == 0) = false := by simpa using h0
      have hC := fr_set4 u3 (w.heap.size + 1) (.int .i64 re) (.int .i64 rh) (.int .i64 rs) (.int .i64 rn)
      have hd := blk_set4 hr (.int .i64 re) (.int .i64 rh) (.int .i64 rs) (.int .i64 rn)
      have HD := Lib.hid (did_tail HH.out HU.out (Fr.refl (At1 g) u3) hC (by omega) (by omega))
      have HDD := Lib.hid hd
      have H0 := Lib.hid h0
      have x0 := hx.cell 0
      have x1 := hx.cell 1
      have x2 := hx.cell 2
      have x3 := hx.cell 3
      have r0 := hr.cell 0
      have r1 := hr.cell 1
      have r2 := hr.cell 2
      have r3 := hr.cell 3
      have f0 := hr.frozen 0
      have f1 := hr.frozen 1
      have f2 := hr.frozen 2
      have f3 := hr.frozen 3
      have hne : ¬ g = w.heap.size + 1 := by omega
      have hne' : ¬ w.heap.size + 1 = g := by omega
      simp only [List.getElem?_toArray, List.getElem?_cons_zero, List.getElem?_cons_succ] at x0 x1 x2 x3 r0 r1 r2 r3
      clear hx hr hd hC HU h0
      go_wp2
      have hd := HDD.out
      have d0 := hd.cell 0
      have d1 := hd.cell 1
      have d2 := hd.cell 2
      have d3 := hd.cell 3
      simp only [List.getElem?_toArray, List.getElem?_cons_zero, List.getElem?_cons_succ] at d0 d1 d2 d3
      refine bodyPost_ret (v := .agg #[.int .i64 re, .int .i64 rh, .int .i64 rs, .int .i64 rn]) (by simp [results, Tryz.results35, go_sem, d0, d1, d2, d3]) rfl ?_
      exact ⟨by unfold numR; rw [if_neg H0.out]; rfl, HD.out⟩
  · have hx : Blk ((((u2.setCell ⟨u1.heap.size, 0, none⟩ (.int .i64 re)).setCell ⟨u1.heap.size, 1, none⟩ (.int .i64 rh)).setCell ⟨u1.heap.size, 2, none⟩ (.int .i64 rs)).setCell ⟨u1.heap.size, 3, none⟩ (.int .i64 rn)) u1.heap.size 29 #[.int .i64 re, .int .i64 rh, .int .i64 rs, .int .i64 rn] := blk_set4 hz2 (.int .i64 re) (.int .i64 rh) (.int .i64 rs) (.int .i64 rn)
    have hr := (HBR.out.fr ka2 (HFAR.out _ (by omega))).fr (fr_set4 u2 (u1.heap.size) (.int .i64 re) (.int .i64 rh) (.int .i64 rs) (.int .i64 rn)) (fun e => by have : w.heap.size + 1 = u1.heap.size := e; omega)
    have hgg : w.heap.size + 1 < u1.heap.size := by omega
    have HU := Lib.hid (did_of HH.out (g := u1.heap.size) (by omega) HF1.out ka2 hb2 (fr_set4 u2 (u1.heap.size) (.int .i64 re) (.int .i64 rh) (.int .i64 rs) (.int .i64 rn)))
    clear HX HFAR HAB HO hw1 HBR HF1
    generalize (((u2.setCell ⟨u1.heap.size, 0, none⟩ (.int .i64 re)).setCell ⟨u1.heap.size, 1, none⟩ (.int .i64 rh)).setCell ⟨u1.heap.size, 2, none⟩ (.int .i64 rs)).setCell ⟨u1.heap.size, 3, none⟩ (.int .i64 rn) = u3 at *
    clear ka1 ka2 hb1 hb2
    try clear y0 y1 y2 y3 z0 z1 z2 z3 hz2 hzl
    try clear hz1
    try clear hu1
    generalize u1.heap.size = g at *
    by_cases h0 : re = 0
    · subst h0
      have hB := fr_set u3 g 3 (.int .i64 num)
      have hy := hx.set_ 3 (.int .i64 num)
      have hyr := hr.fr hB (fun e => by have : w.heap.size + 1 = g := e; omega)
      have hd := blk_set4 hyr (.int .i64 0) (.int .i64 rh) (.int .i64 rs) (.int .i64 num)
      have hC := fr_set4 (u3.setCell ⟨g, 3, none⟩ (.int .i64 num)) (w.heap.size + 1) (.int .i64 0) (.int .i64 rh) (.int .i64 rs) (.int .i64 num)
      have HD := Lib.hid (did_tail HH.out HU.out hB hC (by omega) (by omega))
      have HDD := Lib.hid hd
      have x0 := hx.cell 0
      have x3 := hx.cell 3
      have g3 := hx.frozen 3
      have y0 := hy.cell 0
      have y1 := hy.cell 1
      have y2 := hy.cell 2
      have y3 := hy.cell 3
      have r0 := hr.cell 0
      have r1 := hr.cell 1
      have r2 := hr.cell 2
      have r3 := hr.cell 3
      have f0 := hr.frozen 0
      have f1 := hr.frozen 1
      have f2 := hr.frozen 2
      have f3 := hr.frozen 3
      have hne : ¬ g = w.heap.size + 1 := by omega
      have hne' : ¬ w.heap.size + 1 = g := by omega
      simp only [List.getElem?_toArray, List.getElem?_cons_zero, List.getElem?_cons_succ, List.setIfInBounds_toArray, List.set_cons_succ, List.set_cons_zero] at x0 x3 y0 y1 y2 y3 r0 r1 r2 r3
      clear hx hr hy hyr hd hB hC HU
      go_wp2
      have hd := HDD.out
      have d0 := hd.cell 0
      have d1 := hd.cell 1
      have d2 := hd.cell 2
      have d3 := hd.cell 3
      simp only [List.getElem?_toArray, List.getElem?_cons_zero, List.getElem?_cons_succ] at d0 d1 d2 d3
      refine bodyPost_ret (v := .agg #[.int .i64 0, .int .i64 rh, .int .i64 rs, .int .i64 num]) (by simp [results, Tryz.results35, go_sem, d0, d1, d2, d3]) rfl ?_
      exact ⟨by unfold numR; rw [if_pos rfl]; rfl, HD.out⟩
    · have hz : (re == 0) = false := by simpa using h0
      have hC := fr_set4 u3 (w.heap.size + 1) (.int .i64 re) (.int .i64 rh) (.int .i64 rs) (.int .i64 rn)
      have hd := blk_set4 hr (.int .i64 re) (.int .i64 rh) (.int .i64 rs) (.int .i64 rn)
      have HD := Lib.hid (did_tail HH.out HU.out (Fr.refl (At1 g) u3) hC (by omega) (by omega))
      have HDD := Lib.hid hd
      have H0 := Lib.hid h0
      have x0 := hx.cell 0
      have x1 := hx.cell 1
      have x2 := hx.cell 2
      have x3 := hx.cell 3
      have r0 := hr.cell 0
      have r1 := hr.cell 1
      have r2 := hr.cell 2
      have r3 := hr.cell 3
      have f0 := hr.frozen 0
      have f1 := hr.frozen 1
      have f2 := hr.frozen 2
      have f3 := hr.frozen 3
      have hne : ¬ g = w.heap.size + 1 := by omega
      have hne' : ¬ w.heap.size + 1 = g := by omega
      simp only [List.getElem?_toArray, List.getElem?_cons_zero, List.getElem?_cons_succ] at x0 x1 x2 x3 r0 r1 r2 r3
      clear hx hr hd hC HU h0
      go_wp2
      have hd := HDD.out
      have d0 := hd.cell 0
      have d1 := hd.cell 1
      have d2 := hd.cell 2
      have d3 := hd.cell 3
      simp only [List.getElem?_toArray, List.getElem?_cons_zero, List.getElem?_cons_succ] at d0 d1 d2 d3
      refine bodyPost_ret (v := .agg #[.int .i64 re, .int .i64 rh, .int .i64 rs, .int .i64 rn]) (by simp [results, Tryz.results35, go_sem, d0, d1, d2, d3]) rfl ?_
      exact ⟨by unfold numR; rw [if_neg H0.out]; rfl, HD.out⟩
  · have hx : Blk ((((u2.setCell ⟨w1.heap.size, 0, none⟩ (.int .i64 re)).setCell ⟨w1.heap.size, 1, none⟩ (.int .i64 rh)).setCell ⟨w1.heap.size, 2, none⟩ (.int .i64 rs)).setCell ⟨w1.heap.size, 3, none⟩ (.int .i64 rn)) w1.heap.size 29 #[.int .i64 re, .int .i64 rh, .int .i64 rs, .int .i64 rn] := blk_set4 hz2 (.int .i64 re) (.int .i64 rh) (.int .i64 rs) (.int .i64 rn)
    have hr := (HBR.out.fr ka2 (HFAR.out _ (by omega))).fr (fr_set4 u2 (w1.heap.size) (.int .i64 re) (.int .i64 rh) (.int .i64 rs) (.int .i64 rn)) (fun e => by have : w.heap.size + 1 = w1.heap.size := e; omega)
    have hgg : w.heap.size + 1 < w1.heap.size := hsz
    have HU := Lib.hid (did_of HH.out (g := w1.heap.size) (by omega) HF1.out ka2 hb2 (fr_set4 u2 (w1.heap.size) (.int .i64 re) (.int .i64 rh) (.int .i64 rs) (.int .i64 rn)))
    clear HX HFAR HAB HO hw1 HBR HF1
    generalize (((u2.setCell ⟨w1.heap.size, 0, none⟩ (.int .i64 re)).setCell ⟨w1.heap.size, 1, none⟩ (.int .i64 rh)).setCell ⟨w1.heap.size, 2, none⟩ (.int .i64 rs)).setCell ⟨w1.heap.size, 3, none⟩ (.int .i64 rn) = u3 at *
    clear ka1 ka2 hb1 hb2
    try clear y0 y1 y2 y3 z0 z1 z2 z3 hz2 hzl
    try clear hz1
    try clear hu1
    generalize w1.heap.size = g at *
    by_cases h0 : re = 0
    · subst h0
      have hB := fr_set u3 g 3 (.int .i64 num)
      have hy := hx.set_ 3 (.int .i64 num)
      have hyr := hr.fr hB (fun e => by have : w.heap.size + 1 = g := e; omega)
      have hd := blk_set4 hyr (.int .i64 0) (.int .i64 rh) (.int .i64 rs) (.int .i64 num)
      have hC := fr_set4 (u3.setCell ⟨g, 3, none⟩ (.int .i64 num)) (w.heap.size + 1) (.int .i64 0) (.int .i64 rh) (.int .i64 rs) (.int .i64 num)
      have HD := Lib.hid (did_tail HH.out HU.out hB hC (by omega) (by omega))
      have HDD := Lib.hid hd
      have x0 := hx.cell 0
      have x3 := hx.cell 3
      have g3 := hx.frozen 3
      have y0 := hy.cell 0
      have y1 := hy.cell 1
      have y2 := hy.cell 2
      have y3 := hy.cell 3
      have r0 := hr.cell 0
      have r1 := hr.cell 1
      have r2 := hr.cell 2
      have r3 := hr.cell 3
      have f0 := hr.frozen 0
      have f1 := hr.frozen 1
      have f2 := hr.frozen 2
      have f3 := hr.frozen 3
      have hne : ¬ g = w.heap.size + 1 := by omega
      have hne' : ¬ w.heap.size + 1 = g := by omega
      simp only [List.getElem?_toArray, List.getElem?_cons_zero, List.getElem?_cons_succ, List.setIfInBounds_toArray, List.set_cons_succ, List.set_cons_zero] at x0 x3 y0 y1 y2 y3 r0 r1 r2 r3
      clear hx hr hy hyr hd hB hC HU
      go_wp2
      have hd := HDD.out
      have d0 := hd.cell 0
      have d1 := hd.cell 1
      have d2 := hd.cell 2
      have d3 := hd.cell 3
      simp only [List.getElem?_toArray, List.getElem?_cons_zero, List.getElem?_cons_succ] at d0 d1 d2 d3
      refine bodyPost_ret (v := .agg #[.int .i64 0, .int .i64 rh, .int .i64 rs, .int .i64 num]) (by simp [results, Tryz.results35, go_sem, d0, d1, d2, d3]) rfl ?_
      exact ⟨by unfold numR; rw [if_pos rfl]; rfl, HD.out⟩
    · have hz : (re == 0) = false := by simpa using h0
      have hC := fr_set4 u3 (w.heap.size + 1) (.int .i64 re) (.int .i64 rh) (.int .i64 rs) (.int .i64 rn)
      have hd := blk_set4 hr (.int .i64 re) (.int .i64 rh) (.int .i64 rs) (.int .i64 rn)
      have HD := Lib.hid (did_tail HH.out HU.out (Fr.refl (At1 g) u3) hC (by omega) (by omega))
      have HDD := Lib.hid hd
      have H0 := Lib.hid h0
      have x0 := hx.cell 0
      have x1 := hx.cell 1
      have x2 := hx.cell 2
      have x3 := hx.cell 3
      have r0 := hr.cell 0
      have r1 := hr.cell 1
      have r2 := hr.cell 2
      have r3 := hr.cell 3
      have f0 := hr.frozen 0
      have f1 := hr.frozen 1
      have f2 := hr.frozen 2
      have f3 := hr.frozen 3
      have hne : ¬ g = w.heap.size + 1 := by omega
      have hne' : ¬ w.heap.size + 1 = g := by omega
      simp only [List.getElem?_toArray, List.getElem?_cons_zero, List.getElem?_cons_succ] at x0 x1 x2 x3 r0 r1 r2 r3
      clear hx hr hd hC HU h0
      go_wp2
      have hd := HDD.out
      have d0 := hd.cell 0
      have d1 := hd.cell 1
      have d2 := hd.cell 2
      have d3 := hd.cell 3
      simp only [List.getElem?_toArray, List.getElem?_cons_zero, List.getElem?_cons_succ] at d0 d1 d2 d3
      refine bodyPost_ret (v := .agg #[.int .i64 re, .int .i64 rh, .int .i64 rs, .int .i64 rn]) (by simp [results, Tryz.results35, go_sem, d0, d1, d2, d3]) rfl ?_
      exact ⟨by unfold numR; rw [if_neg H0.out]; rfl, HD.out⟩
end Go.Proofs.YtgklifbfbjdobaaGreat

namespace Go.Proofs.YtgklifbfbjdobaaGreat
open Go.RowKit Go.My Go.Maps
set_option linter.unusedSimpArgs false
set_option linter.unusedVariables false
attribute [local go_sem ↓] Go.wp_at_zero Go.wp_at_succ

def fnB (f : FuncId) : Value := .func (.func f) #[] #[]
/-- the functions of the kinds -/
def effF (k : Int) : Option Value :=
  if k = 7 then some (fnB 39)
  else if k = 6 then some (fnB 38)
  else if k = 5 then some (fnB 37)
  else if k = 4 then some (fnB 36)
  else if k = 3 then some (fnB 35)
  else if k = 2 then some (fnB 34)
  else if k = 1 then some (fnB 33)
  else none
set_option maxRecDepth 100000 in
set_option maxHeartbeats 1000000 in
theorem effects_any (w : World) : Calls Tryz.prog 24 #[] w fun e w' => ∃ m, e = .returned (.map (some m)) ∧ Tab Tryz.prog 3 w' m 7 effF ∧ Fr No w w' := by
  have HT : Hid (Tab Tryz.prog 3 (w.alloc (.map #[] 0)) w.heap.size 0 (fun _ => none)) := Tab.made w
  have HM : Hid (Fr No w (w.alloc (.map #[] 0))) := (Fr.refl _ _).alloc _
  have hmk := @run_makeMap Tryz.prog
  obtain ⟨u0, hr0, hT0, hf0⟩ := HT.out.put Tryz.underlying3 Tryz.underlying64 (by unfold maxLen; omega) 1 (by unfold In64; omega) (fnB 33)
  obtain ⟨u1, hr1, hT1, hf1⟩ := hT0.put Tryz.underlying3 Tryz.underlying64 (by unfold maxLen; omega) 2 (by unfold In64; omega) (fnB 34)
  obtain ⟨u2, hr2, hT2, hf2⟩ := hT1.put Tryz.underlying3 Tryz.underlying64 (by unfold maxLen; omega) 3 (by unfold In64; omega) (fnB 35)
  obtain ⟨u3, hr3, hT3, hf3⟩ := hT2.put Tryz.underlying3 Tryz.underlying64 (by unfold maxLen; omega) 4 (by unfold In64; omega) (fnB 36)
  obtain ⟨u4, hr4, hT4, hf4⟩ := hT3.put Tryz.underlying3 Tryz.underlying64 (by unfold maxLen; omega) 5 (by unfold In64; omega) (fnB 37)
  obtain ⟨u5, hr5, hT5, hf5⟩ := hT4.put Tryz.underlying3 Tryz.underlying64 (by unfold maxLen; omega) 6 (by unfold In64; omega) (fnB 38)
  obtain ⟨u6, hr6, hT6, hf6⟩ := hT5.put Tryz.underlying3 Tryz.underlying64 (by unfold maxLen; omega) 7 (by unfold In64; omega) (fnB 39)
  have HF : Hid (Fr No w u6) := HM.out.trans' (((((((hf0.trans hf1).trans hf2).trans hf3).trans hf4).trans hf5).trans hf6)) (fun i hi hlt => by have : i = w.heap.size := hi; omega)
  have HT6 := Lib.hid hT6
  simp only [fnB] at hr0 hr1 hr2 hr3 hr4 hr5 hr6
  clear HT HM hT0 hT1 hT2 hT3 hT4 hT5 hT6 hf0 hf1 hf2 hf3 hf4 hf5 hf6
  go_enter Tryz.func24, Tryz.ntmps24
  go_wp2
  go_ret
  exact ⟨_, rfl, HT6.out, HF.out⟩
theorem right_legs {o : Od} (h : rightO o = true) (hk : o.kd = 2) : rightB o.legs = true := by
  unfold rightO at h
  simp only [Bool.and_eq_true, decide_eq_true_eq] at h
  obtain ⟨-, -, -, -, -, -, hl, -⟩ := h
  unfold legsB at hl
  rw [if_pos hk] at hl
  exact hl
/-- what Do does of a kind that is right -/
def DoesK (q : Pl) (b : Bk) (o : Od) (v : Value) (f : FuncId) (w : World) : Prop := ∀ W, Fr No w W → Calls Tryz.prog f #[.pointer (some ⟨q.p, 0, none⟩), o.val v] W (DidB q (effR b o) (effB b o) W)
theorem does_k (F : Nat → Prop) (q : Pl) (b : Bk) (o : Od) (v : Value) (w : World) (h : BkS w q b) (ho : o.ok) (hv : LgS w F v o.legs) (hF : ∀ k, F k → k < w.heap.size ∧ k ≠ q.m) (hr : rightO o = true) :
    ∃ f, effF o.kd = some (fnB f) ∧ DoesK q b o v f w ∧ (f = 39 ∨ f = 38 ∨ f = 37 ∨ f = 36 ∨ f = 35 ∨ f = 34 ∨ f = 33) := by
  obtain ⟨⟨k1, k7⟩, -⟩ := right_kd hr
  have hk : o.kd = 1 ∨ o.kd = 2 ∨ o.kd = 3 ∨ o.kd = 4 ∨ o.kd = 5 ∨ o.kd = 6 ∨ o.kd = 7 := by omega
  rcases hk with hk | hk | hk | hk | hk | hk | hk
  · exact ⟨_, by rw [hk]; rfl, fun W hW => bopen_any q b o v W (h.no hW) ho hr hk, by simp⟩
  · refine ⟨_, by rw [hk]; rfl, fun W hW => ?_, by simp⟩
    by_cases hc : o.per ≤ b.cl
    · exact bpost_closed q b o v W (h.no hW) hk hc
    · refine bpost_any q b o v W (h.no hW) ho hr hk F (hv.no hW) (fun k hk => ⟨Nat.lt_of_lt_of_le (hF k hk).1 hW.size, (hF k hk).2⟩) ?_ hc
      have := rightB_six (right_legs hr hk)
      omega
  · exact ⟨_, by rw [hk]; rfl, fun W hW => bhold_any q b o v W (h.no hW) ho hr hk, by simp⟩
  · refine ⟨_, by rw [hk]; rfl, fun W hW => ?_, by simp⟩
    by_cases hc : o.per ≤ b.cl
    · exact bcapture_closed q b o v W (h.no hW) hk hc
    · exact bcapture_any q b o v W (h.no hW) ho hr hk hc
  · exact ⟨_, by rw [hk]; rfl, fun W hW => brelease_any q b o v W (h.no hW) ho hr hk, by simp⟩
  · refine ⟨_, by rw [hk]; rfl, fun W hW => ?_, by simp⟩
    by_cases hc : o.per ≤ b.cl
    · exact bclose_closed q b o v W (h.no hW) hk hc
    · exact bclose_any q b o v W (h.no hW) ho hr hk hc
  · exact ⟨_, by rw [hk]; rfl, fun W hW => bask_any q b o v W (h.no hW) ho hk, by simp⟩
theorem kb_ask (args : Array Value) (W : World) : (callFunc 39 args).run Tryz.prog W = .ok (.enter 39 args) W := by kernel_rfl
theorem kb_close (args : Array Value) (W : World) : (callFunc 38 args).run Tryz.prog W = .ok (.enter 38 args) W := by kernel_rfl
theorem kb_release (args : Array Value) (W : World) : (callFunc 37 args).run Tryz.prog W = .ok (.enter 37 args) W := by kernel_rfl
theorem kb_capture (args : Array Value) (W : World) : (callFunc 36 args).run Tryz.prog W = .ok (.enter 36 args) W := by kernel_rfl
theorem kb_hold (args : Array Value) (W : World) : (callFunc 35 args).run Tryz.prog W = .ok (.enter 35 args) W := by kernel_rfl
theorem kb_post (args : Array Value) (W : World) : (callFunc 34 args).run Tryz.prog W = .ok (.enter 34 args) W := by kernel_rfl
theorem kb_open (args : Array Value) (W : World) : (callFunc 33 args).run Tryz.prog W = .ok (.enter 33 args) W := by kernel_rfl
theorem k_of {f : FuncId} (h : f = 39 ∨ f = 38 ∨ f = 37 ∨ f = 36 ∨ f = 35 ∨ f = 34 ∨ f = 33) (args : Array Value) (W : World) : (callFunc f args).run Tryz.prog W = .ok (.enter f args) W := by
  rcases h with rfl | rfl | rfl | rfl | rfl | rfl | rfl
  · exact kb_ask args W
  · exact kb_close args W
  · exact kb_release args W
  · exact kb_capture args W
  · exact kb_hold args W
  · exact kb_post args W
  · exact kb_open args W
theorem doR_ret (b : Bk) (o : Od) (h : rightO o = false) : doR b o = errR 1 ∧ doB b o = b := by
  unfold doR doB
  rw [h]
  exact ⟨rfl, rfl⟩
theorem doR_eff (b : Bk) (o : Od) (h : rightO o = true) : doR b o = effR b o ∧ doB b o = effB b o := by
  unfold doR doB
  rw [h]
  exact ⟨rfl, rfl⟩
/-- what is written of a book, and one block besides -/
def Pl.wrr (q : Pl) (g : Nat) : Nat → Prop := fun i => q.wr i ∨ i = g
theorem zeroF (w : World) : (zeroValue 63).run Tryz.prog w = .ok (.nilFunc) w := by kernel_rfl
set_option maxRecDepth 100000 in
set_option maxHeartbeats 2000000 in
theorem do_any (F : Nat → Prop) (q : Pl) (b : Bk) (o : Od) (v : Value) (w : World) (h : BkS w q b) (ho : o.ok) (hv : LgS w F v o.legs) (hF : ∀ k, F k → k < w.heap.size ∧ k ≠ q.m) :
    Calls Tryz.prog 12 #[.pointer (some ⟨q.p, 0, none⟩), o.val v] w (DidB q (doR b o) (doB b o) w) := by
  have HRT : Hid (∀ W, Fr No w W → Calls Tryz.prog 23 #[o.val v] W fun e w' => e = .returned (.bool (rightO o)) ∧ Fr No W w') := fun W hW => rightO_any F o v W ho (hv.no hW)
  have HH := Lib.hid h
  have hkd := ho.2.2.1
  cases hr : rightO o with
  | false =>
    obtain ⟨e1, e2⟩ := doR_ret b o hr
    rw [e1, e2]
    rw [hr] at HRT
    clear e1 e2 hr h ho hv hF hkd
    obtain ⟨ocl, osq, okd, oac, ope, osm, olg, opr, ohd, ont⟩ := o
    unfold Od.val Od.cs at *
    simp only at HRT ⊢
    have hbo := Blk.new w 35 #[.int .i64 ocl, .int .i64 osq, .int .i64 okd, .string oac, .string ope, .int .i64 osm, v, .int .i64 opr, .int .i64 ohd, .string ont]
    have hbr := Blk.new (w.alloc (.cells #[.int .i64 ocl, .int .i64 osq, .int .i64 okd, .string oac, .string ope, .int .i64 osm, v, .int .i64 opr, .int .i64 ohd, .string ont] 35)) 29 #[.int .i64 0, .int .i64 0, .int .i64 0, .int .i64 0]
    rw [World.size_alloc] at hbr
    have hbo1 := hbo.alloc (.cells #[.int .i64 0, .int .i64 0, .int .i64 0, .int .i64 0] 29)
    have hf1 : Fr No w ((w.alloc (.cells #[.int .i64 ocl, .int .i64 osq, .int .i64 okd, .string oac, .string ope, .int .i64 osm, v, .int .i64 opr, .int .i64 ohd, .string ont] 35)).alloc (.cells #[.int .i64 0, .int .i64 0, .int .i64 0, .int .i64 0] 29)) := ((Fr.refl _ _).alloc _).alloc _
    have o0 := hbo1.cell 0
    have o1 := hbo1.cell 1
    have o2 := hbo1.cell 2
    have o3 := hbo1.cell 3
    have o4 := hbo1.cell 4
    have o5 := hbo1.cell 5
    have o6 := hbo1.cell 6
    have o7 := hbo1.cell 7
    have o8 := hbo1.cell 8
    have o9 := hbo1.cell 9
    simp only [List.getElem?_toArray, List.getElem?_cons_zero, List.getElem?_cons_succ] at o0 o1 o2 o3 o4 o5 o6 o7 o8 o9
    clear hbo hbo1
    go_enter Tryz.func12, Tryz.ntmps12
    go_wp2_with fail
    (with_reducible refine (HRT.out _ hf1).mono ?_)
    rintro e u2 ⟨rfl, hg⟩
    have hr2 := hbr.fr hg (fun h => h)
    have hd := blk_set4 hr2 (.int .i64 1) (.int .i64 0) (.int .i64 0) (.int .i64 0)
    have HF2 : Hid (Fr No w u2) := hf1.trans hg
    have HC := fr_set4 u2 (w.heap.size + 1) (.int .i64 1) (.int .i64 0) (.int .i64 0) (.int .i64 0)
    have HD := Lib.hid (did_tail HH.out ⟨HH.out.no HF2.out, HF2.out.mono fun _ _ h => False.elim h⟩ (Fr.refl (At1 (w.heap.size + 1)) u2) HC (Nat.le_succ _) (Nat.le_succ _))
    have HDD := Lib.hid hd
    have r0 := hr2.cell 0
    have r1 := hr2.cell 1
    have r2 := hr2.cell 2
    have r3 := hr2.cell 3
    have f0 := hr2.frozen 0
    have f1 := hr2.frozen 1
    have f2 := hr2.frozen 2
    have f3 := hr2.frozen 3
    simp only [List.getElem?_toArray, List.getElem?_cons_zero, List.getElem?_cons_succ] at r0 r1 r2 r3
    clear o0 o1 o2 o3 o4 o5 o6 o7 o8 o9 hbr hf1 hg hr2 hd HC HRT
    go_wp2
    have hd := HDD.out
    have d0 := hd.cell 0
    have d1 := hd.cell 1
    have d2 := hd.cell 2
    have d3 := hd.cell 3
    simp only [List.getElem?_toArray, List.getElem?_cons_zero, List.getElem?_cons_succ] at d0 d1 d2 d3
    refine bodyPost_ret (v := .agg #[.int .i64 1, .int .i64 0, .int .i64 0, .int .i64 0]) (by simp [results, Tryz.results12, go_sem, d0, d1, d2, d3]) rfl ?_
    exact ⟨rfl, HD.out⟩
  | true =>
    obtain ⟨e1, e2⟩ := doR_eff b o hr
    rw [e1, e2]
    obtain ⟨f, hef, hdk, hfs⟩ := does_k F q b o v w h ho hv hF hr
    have HDK := Lib.hid hdk
    have hcf := k_of hfs
    have HLK : Hid (∀ m W, Tab Tryz.prog 3 W m 7 effF → (Instr.lookup 64 (.map (some m)) (.int .i64 o.kd) false).run Tryz.prog W = .ok (.func (.func f) #[] #[]) W) := fun m W h => by
      have h1 := h.look Tryz.underlying3 Tryz.underlying64 (zeroF W) o.kd hkd
      rw [hef] at h1
      exact h1
    rw [hr] at HRT
    obtain ⟨re, rh, rs, rn, hR⟩ : ∃ x y z t, effR b o = ⟨x, y, z, t⟩ := ⟨_, _, _, _, rfl⟩
    unfold DoesK at HDK
    rw [hR] at HDK
    rw [hR]
    generalize effB b o = b' at *
    clear e1 e2 hr h ho hv hF hkd hef hdk hfs hR
    obtain ⟨ocl, osq, okd, oac, ope, osm, olg, opr, ohd, ont⟩ := o
    unfold Od.val Od.cs at *
    simp only at HRT HDK HLK ⊢
    have HDX : Hid (∀ W, Fr No w W → Calls Tryz.prog f #[.pointer (some ⟨q.p, 0, none⟩), .agg #[.int .i64 ocl, .int .i64 osq, .int .i64 okd, .string oac, .string ope, .int .i64 osm, v, .int .i64 opr, .int .i64 ohd, .string ont]] W fun e w' => e = .returned (.agg #[.int .i64 re, .int .i64 rh, .int .i64 rs, .int .i64 rn]) ∧ BkS w' q b' ∧ Fr q.wr W w') := fun W hW => HDK.out W hW
    clear HDK
    have hbo := Blk.new w 35 #[.int .i64 ocl, .int .i64 osq, .int .i64 okd, .string oac, .string ope, .int .i64 osm, v, .int .i64 opr, .int .i64 ohd, .string ont]
    have hbr := Blk.new (w.alloc (.cells #[.int .i64 ocl, .int .i64 osq, .int .i64 okd, .string oac, .string ope, .int .i64 osm, v, .int .i64 opr, .int .i64 ohd, .string ont] 35)) 29 #[.int .i64 0, .int .i64 0, .int .i64 0, .int .i64 0]
    rw [World.size_alloc] at hbr
    have hbo1 := hbo.alloc (.cells #[.int .i64 0, .int .i64 0, .int .i64 0, .int .i64 0] 29)
    have hf1 : Fr No w ((w.alloc (.cells #[.int .i64 ocl, .int .i64 osq, .int .i64 okd, .string oac, .string ope, .int .i64 osm, v, .int .i64 opr, .int .i64 ohd, .string ont] 35)).alloc (.cells #[.int .i64 0, .int .i64 0, .int .i64 0, .int .i64 0] 29)) := ((Fr.refl _ _).alloc _).alloc _
    have HX0 : Hid (∀ W, Fr No ((w.alloc (.cells #[.int .i64 ocl, .int .i64 osq, .int .i64 okd, .string oac, .string ope, .int .i64 osm, v, .int .i64 opr, .int .i64 ohd, .string ont] 35)).alloc (.cells #[.int .i64 0, .int .i64 0, .int .i64 0, .int .i64 0] 29)) W → W.cell? ⟨w.heap.size, 0, none⟩ = some (.int .i64 ocl) ∧ W.cell? ⟨w.heap.size, 1, none⟩ = some (.int .i64 osq) ∧ W.cell? ⟨w.heap.size, 2, none⟩ = some (.int .i64 okd) ∧ W.cell? ⟨w.heap.size, 3, none⟩ = some (.string oac) ∧ W.cell? ⟨w.heap.size, 4, none⟩ = some (.string ope) ∧ W.cell? ⟨w.heap.size, 5, none⟩ = some (.int .i64 osm) ∧ W.cell? ⟨w.heap.size, 6, none⟩ = some (v) ∧ W.cell? ⟨w.heap.size, 7, none⟩ = some (.int .i64 opr) ∧ W.cell? ⟨w.heap.size, 8, none⟩ = some (.int .i64 ohd) ∧ W.cell? ⟨w.heap.size, 9, none⟩ = some (.string ont)) := fun W hW => by
      have h1 := hbo1.fr hW (fun h => h)
      exact ⟨h1.cell 0, h1.cell 1, h1.cell 2, h1.cell 3, h1.cell 4, h1.cell 5, h1.cell 6, h1.cell 7, h1.cell 8, h1.cell 9⟩
    obtain ⟨o0, o1, o2, o3, o4, o5, o6, o7, o8, o9⟩ := HX0.out _ (Fr.refl _ _)
    clear hbo
    go_enter Tryz.func12, Tryz.ntmps12
    go_wp2_with fail
    (with_reducible refine (HRT.out _ hf1).mono ?_)
    rintro e w2 ⟨rfl, hg⟩
    have hr2 := hbr.fr hg (fun h => h)
    have hbo2 := hbo1.fr hg (fun h => h)
    have hf2 := hf1.trans hg
    clear o0 o1 o2 o3 o4 o5 o6 o7 o8 o9 HX0 hbo1 hbr hf1 hg HRT
    go_upto_region 3 with (fail)
    have HF2 := Lib.hid hf2
    have HR2 := Lib.hid hr2
    have HX : Hid (∀ W, Fr (q.wrr (w.heap.size + 1)) w2 W → Fr (q.wrr (w.heap.size + 1)) w2 W ∧ W.cell? ⟨w.heap.size, 0, none⟩ = some (.int .i64 ocl) ∧ W.cell? ⟨w.heap.size, 1, none⟩ = some (.int .i64 osq) ∧ W.cell? ⟨w.heap.size, 2, none⟩ = some (.int .i64 okd) ∧ W.cell? ⟨w.heap.size, 3, none⟩ = some (.string oac) ∧ W.cell? ⟨w.heap.size, 4, none⟩ = some (.string ope) ∧ W.cell? ⟨w.heap.size, 5, none⟩ = some (.int .i64 osm) ∧ W.cell? ⟨w.heap.size, 6, none⟩ = some (v) ∧ W.cell? ⟨w.heap.size, 7, none⟩ = some (.int .i64 opr) ∧ W.cell? ⟨w.heap.size, 8, none⟩ = some (.int .i64 ohd) ∧ W.cell? ⟨w.heap.size, 9, none⟩ = some (.string ont)) := fun W hW => by
      have h1 := hbo2.fr hW (fun e => by rcases e with e | e; exact Pl.far HH.out (Nat.le_refl _) e; omega)
      exact ⟨hW, h1.cell 0, h1.cell 1, h1.cell 2, h1.cell 3, h1.cell 4, h1.cell 5, h1.cell 6, h1.cell 7, h1.cell 8, h1.cell 9⟩
    have HFAR : Hid (¬ q.wr (w.heap.size + 1)) := Pl.far HH.out (Nat.le_succ _)
    have hw2 : Fr (q.wrr (w.heap.size + 1)) w2 w2.drew := (Fr.refl _ w2).drew
    clear hbo2 hf2 hr2
    have HEF := Lib.hid (fun W => effects_any W)
    go_region_held3 (fun W => Fr (q.wrr (w.heap.size + 1)) w2 W ∧ W.cell? ⟨w.heap.size, 0, none⟩ = some (.int .i64 ocl) ∧ W.cell? ⟨w.heap.size, 1, none⟩ = some (.int .i64 osq) ∧ W.cell? ⟨w.heap.size, 2, none⟩ = some (.int .i64 okd) ∧ W.cell? ⟨w.heap.size, 3, none⟩ = some (.string oac) ∧ W.cell? ⟨w.heap.size, 4, none⟩ = some (.string ope) ∧ W.cell? ⟨w.heap.size, 5, none⟩ = some (.int .i64 osm) ∧ W.cell? ⟨w.heap.size, 6, none⟩ = some (v) ∧ W.cell? ⟨w.heap.size, 7, none⟩ = some (.int .i64 opr) ∧ W.cell? ⟨w.heap.size, 8, none⟩ = some (.int .i64 ohd) ∧ W.cell? ⟨w.heap.size, 9, none⟩ = some (.string ont))
      (first
        | (refine HX.out _ ?_; with_reducible assumption)
        | (refine HX.out _ (Fr.trans ?_ ((fr_set4 _ _ _ _ _ _).mono fun _ _ h => .inr h)); with_reducible assumption))
      (first
        | (go_at_call 24; (with_reducible refine (HEF.out _).mono ?_); rintro e u1 ⟨m, rfl, hT, hg⟩; have hlk := HLK.out m _ hT; have ka1 : Fr No w2 u1 := Fr.trans (Fr.refl _ w2).drew hg; have kb1 : Fr (q.wrr (w.heap.size + 1)) w2 u1 := ka1.mono (fun _ _ h => False.elim h); clear hg hT)
        | ((with_reducible refine (HDX.out _ (HF2.out.trans ka1)).mono ?_); rintro e u2 ⟨rfl, hb2, hg⟩; have ka2 : Fr q.wr w2 u2 := Fr.trans (ka1.mono (fun _ _ h => False.elim h)) hg; have kb2 : Fr (q.wrr (w.heap.size + 1)) w2 u2 := ka2.mono (fun _ _ h => .inl h); clear hg; have hz2 := HR2.out.fr ka2 HFAR.out; have c0 := hz2.cell 0; have c1 := hz2.cell 1; have c2 := hz2.cell 2; have c3 := hz2.cell 3; have f0 := hz2.frozen 0; have f1 := hz2.frozen 1; have f2 := hz2.frozen 2; have f3 := hz2.frozen 3; simp only [List.getElem?_toArray, List.getElem?_cons_zero, List.getElem?_cons_succ] at c0 c1 c2 c3))
    all_goals
      have hd := blk_set4 hz2 (.int .i64 re) (.int .i64 rh) (.int .i64 rs) (.int .i64 rn)
      have HD := Lib.hid (did_tail HH.out ⟨hb2, (HF2.out.mono (T := q.wr) fun _ _ h => False.elim h).trans ka2⟩ (Fr.refl (At1 (w.heap.size + 1)) u2) (fr_set4 u2 (w.heap.size + 1) (.int .i64 re) (.int .i64 rh) (.int .i64 rs) (.int .i64 rn)) (Nat.le_succ _) (Nat.le_succ _))
      clear c0 c1 c2 c3 f0 f1 f2 f3 hz2 HX hcf hlk
      generalize (((u2.setCell ⟨w.heap.size + 1, 0, none⟩ (.int .i64 re)).setCell ⟨w.heap.size + 1, 1, none⟩ (.int .i64 rh)).setCell ⟨w.heap.size + 1, 2, none⟩ (.int .i64 rs)).setCell ⟨w.heap.size + 1, 3, none⟩ (.int .i64 rn) = u3 at *
      have d0 := hd.cell 0
      have d1 := hd.cell 1
      have d2 := hd.cell 2
      have d3 := hd.cell 3
      simp only [List.getElem?_toArray, List.getElem?_cons_zero, List.getElem?_cons_succ] at d0 d1 d2 d3
      go_wp2
      refine bodyPost_ret (v := .agg #[.int .i64 re, .int .i64 rh, .int .i64 rs, .int .i64 rn]) (by simp [results, Tryz.results12, go_sem, d0, d1, d2, d3]) rfl ?_
      exact ⟨rfl, HD.out⟩
end Go.Proofs.YtgklifbfbjdobaaGreat
