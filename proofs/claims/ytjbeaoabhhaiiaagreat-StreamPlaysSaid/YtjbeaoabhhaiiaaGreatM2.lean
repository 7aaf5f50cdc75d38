/- A book in memory. Its small functions: New, isClosed, about. What each kind of order does to a book in memory. What a Hold does to a book in memory. What a book does: a table of what each kind of order does; Do. What a book has: Accts, Holds, Closed, Copy, Same. Lists of orders in memory; replies in rows. Orders done one behind the other: book.Fold. A book's accounts have names that may be. What who asks is told. In lists. Legs in another row: in lists. Legs as cells. Legs as cells; the first eight of them. What legs change, in lists: the total stays, each account grows by its leg. The document's own voucher: may legs be? The document's own voucher: Check. The document's own voucher: Make. The document's own holds: Take. -/
import Derived.Test.YtjbeaoabhhaiiaaGreatM1
import Derived.Test.YtjbeaoabhhaiiaaGreatChartI0
import Derived.Deep.RegionHeld3
import Derived.Deep.DrawnRows
import Derived.Laws.EntriesVeiled
import Derived.Test.YtjbeaoabhhaiiaaGreatHoldK0
import Derived.Deep.QuietTactic
import Derived.BigQuiet
import Derived.Test.YtjbeaoabhhaiiaaGreatVouMath
import Derived.Test.YtjbeaoabhhaiiaaGreatLg
import Derived.Test.YtjbeaoabhhaiiaaGreatVou3
import Derived.Test.YtjbeaoabhhaiiaaGreatChartJ4
import Derived.Test.YtjbeaoabhhaiiaaGreatChartJ5
import Derived.Deep.DeepCutAuto
import Derived.StillTailTactics
import Derived.Test.YtjbeaoabhhaiiaaGreatHoldR2
namespace Go.Proofs.YtjbeaoabhhaiiaaGreat
open Go.RowKit Go.My Go.Maps
set_option linter.unusedSimpArgs false
set_option linter.unusedVariables false
attribute [local go_sem ↓] Go.wp_at_zero Go.wp_at_succ

/-- where a book lies: itself, its chart and the chart's map, its holds and their map -/
structure Pl where
  p : Nat
  c : Nat
  m : Nat
  h : Nat
  k : Nat
def Pl.all (q : Pl) : Nat → Prop := fun i => i = q.p ∨ i = q.c ∨ i = q.m ∨ i = q.h ∨ i = q.k
/-- what is written of it -/
def Pl.wr (q : Pl) : Nat → Prop := fun i => i = q.p ∨ i = q.m ∨ i = q.k
theorem Pl.wr_all {q : Pl} {i : Nat} (h : q.wr i) : q.all i := by
  rcases h with h | h | h
  · exact .inl h
  · exact .inr (.inr (.inl h))
  · exact .inr (.inr (.inr (.inr h)))
structure BkS (w : World) (q : Pl) (b : Bk) : Prop where
  blk : Blk w q.p 108 #[.pointer (some ⟨q.c, 0, none⟩), .pointer (some ⟨q.h, 0, none⟩), .int .i64 b.cl]
  ch : ChS w q.c q.m b.S
  hd : HdS w q.h q.k b.H
  ne : q.k ≠ q.m
  inv : BkI b
section
variable {w w' : World} {q : Pl} {b : Bk}
theorem BkS.fr {F : Nat → Prop} (h : BkS w q b) (hf : Fr F w w') (hn : ∀ i, q.all i → ¬ F i) : BkS w' q b :=
  ⟨h.blk.fr hf (hn _ (.inl rfl)), h.ch.fr hf (hn _ (.inr (.inl rfl))) (hn _ (.inr (.inr (.inl rfl)))), h.hd.fr hf (hn _ (.inr (.inr (.inr (.inl rfl))))) (hn _ (.inr (.inr (.inr (.inr rfl))))), h.ne, h.inv⟩
theorem BkS.no (h : BkS w q b) (hf : Fr No w w') : BkS w' q b := h.fr hf (fun _ _ h => h)
theorem BkS.lt (h : BkS w q b) : ∀ i, q.all i → i < w.heap.size := fun i hi => by
  rcases hi with rfl | rfl | rfl | rfl | rfl
  · exact h.blk.lt
  · exact h.ch.1.lt
  · exact h.ch.2.lt
  · exact h.hd.1.lt
  · exact h.hd.2.lt
theorem BkS.mp (h : BkS w q b) : q.m ≠ q.p ∧ q.k ≠ q.p := ⟨h.ch.2.ne_ h.blk, h.hd.2.ne_ h.blk⟩
/-- what has changed is the chart -/
theorem BkS.chart (h : BkS w q b) {S : List Ac} (hc : ChS w' q.c q.m S) (hf : Fr (At1 q.m) w w') (hi : BkI ⟨S, b.H, b.cl⟩) : BkS w' q ⟨S, b.H, b.cl⟩ :=
  ⟨h.blk.fr hf (fun e => h.mp.1 (show q.p = q.m from e).symm), hc, h.hd.at1 h.ch h.ne hf, h.ne, hi⟩
theorem BkS.chart_same (h : BkS w q b) (hc : ChS w' q.c q.m b.S) (hf : Fr (At1 q.m) w w') : BkS w' q b := h.chart hc hf h.inv
/-- the chart and the holds -/
theorem BkS.both (h : BkS w q b) {n : Int} {S : List Ac} {H : List Hd} {e : Ending} (hr : HRet q.c q.m q.h q.k n S H w e w') (hi : BkI ⟨S, H, b.cl⟩) : BkS w' q ⟨S, H, b.cl⟩ :=
  ⟨h.blk.fr hr.fr (fun e => by rcases e with e | e; exact h.mp.1 e.symm; exact h.mp.2 e.symm), hr.ch, hr.hd, h.ne, hi⟩
theorem Pl.wr_m {q : Pl} (hf : Fr (At1 q.m) w w') : Fr q.wr w w' := hf.mono fun _ _ h => .inr (.inl h)
theorem Pl.wr_mk {q : Pl} (hf : Fr (At2 q.m q.k) w w') : Fr q.wr w w' := hf.mono fun _ _ h => by
  rcases h with h | h
  · exact .inr (.inl h)
  · exact .inr (.inr h)
end
/-- a reply that is stored -/
theorem fr_set4 (w : World) (g : Nat) (a b c d : Value) : Fr (At1 g) w ((((w.setCell ⟨g, 0, none⟩ a).setCell ⟨g, 1, none⟩ b).setCell ⟨g, 2, none⟩ c).setCell ⟨g, 3, none⟩ d) :=
  Fr.setCell (S := At1 g) (p := ⟨g, 3, none⟩) (Fr.setCell (S := At1 g) (p := ⟨g, 2, none⟩) (Fr.setCell (S := At1 g) (p := ⟨g, 1, none⟩) (Fr.setCell (S := At1 g) (p := ⟨g, 0, none⟩) (Fr.refl _ _) (fun _ => rfl) _) (fun _ => rfl) _) (fun _ => rfl) _) (fun _ => rfl) _

set_option maxRecDepth 100000 in
set_option maxHeartbeats 1000000 in
theorem isClosed_any (q : Pl) (b : Bk) (n : Int) (w : World) (h : BkS w q b) : Calls Tryz.prog 104 #[.pointer (some ⟨q.p, 0, none⟩), .int .i64 n] w fun e w' => e = .returned (.bool (decide (n ≤ b.cl))) ∧ w = w' := by
  have x2 : w.cell? ⟨q.p, 2, none⟩ = some (.int .i64 b.cl) := h.blk.cell 2
  clear h
  go_enter Tryz.func104, Tryz.ntmps104
  go_wp2
  go_ret
  exact ⟨rfl, rfl⟩

set_option maxRecDepth 100000 in
set_option maxHeartbeats 1000000 in
theorem about_any (q : Pl) (b : Bk) (s : ByteArray) (e0 : Int) (w : World) (h : BkS w q b) (hs : s.size ≤ maxLen) :
    Calls Tryz.prog 102 #[.pointer (some ⟨q.p, 0, none⟩), .string s, .int .i64 e0] w fun e w' => e = .returned (aboutR b.S s.data.toList e0).val ∧ BkS w' q b ∧ Fr (At1 q.m) w w' := by
  have HH := Lib.hid h
  by_cases h0 : e0 = 0
  · subst h0
    have HG : Hid (∀ W, Fr No w W → Calls Tryz.prog 136 #[.pointer (some ⟨q.c, 0, none⟩), .string s] W (GotC q.c q.m b.S s.data.toList W)) := fun W hW => get_any q.c q.m b.S s W (h.ch.no hW) hs h.inv.st.kp.inv.len
    have x0 : ∀ o, (w.alloc o).cell? ⟨q.p, 0, none⟩ = some (.pointer (some ⟨q.c, 0, none⟩)) := fun o => (h.blk.alloc o).cell 0
    have hml := h.ch.2.lt
    clear h hs
    go_enter Tryz.func102, Tryz.ntmps102
    go_wp2_with fail
    refine (HG.out _ ((Fr.refl _ _).alloc _)).mono ?_
    rintro e w2 ⟨rfl, hc2, hf2⟩
    have hb := (Blk.new w 41 #[.int .i64 0, .int .i64 0, .int .i64 0, .int .i64 0]).fr hf2 (fun e => by have : w.heap.size = q.m := e; omega)
    have HF2 : Hid (Fr (At1 q.m) w w2) := (((Fr.refl No w).alloc _).mono (T := At1 q.m) fun _ _ h => False.elim h).trans hf2
    have HB2 := Lib.hid (HH.out.chart_same hc2 HF2.out)
    have c0 := hb.cell 0
    have c1 := hb.cell 1
    have c2 := hb.cell 2
    have c3 := hb.cell 3
    have f0 := hb.frozen 0
    have f1 := hb.frozen 1
    have f2 := hb.frozen 2
    have f3 := hb.frozen 3
    simp only [List.getElem?_toArray, List.getElem?_cons_zero, List.getElem?_cons_succ] at c0 c1 c2 c3
    have HR : Hid (aboutR b.S s.data.toList 0 = ⟨(if (getA b.S s.data.toList).isSome then 0 else 6), (getV b.S s.data.toList).hv, (getV b.S s.data.toList).st, 0⟩) := rfl
    have hrl := hb.lt
    generalize getV b.S s.data.toList = V at *
    generalize (if (getA b.S s.data.toList).isSome then (0 : Int) else 6) = n at *
    obtain ⟨vn, vh, vs, vl⟩ := V
    unfold Ac.val
    simp only at HR
    have hy := Blk.new w2 80 #[.string ⟨vn.toArray⟩, .int .i64 vh, .int .i64 vs, .int .i64 vl]
    have y1 := hy.cell 1
    have y2 := hy.cell 2
    simp only [List.getElem?_toArray, List.getElem?_cons_zero, List.getElem?_cons_succ] at y1 y2
    have HB4 := Lib.hid hb
    clear hy hb hf2 hc2 x0 HG
    go_wp2
    have hd : Blk (((((w2.setCell ⟨w.heap.size, 0, none⟩ (.int .i64 n)).setCell ⟨w.heap.size, 1, none⟩ (.int .i64 vh)).setCell ⟨w.heap.size, 2, none⟩ (.int .i64 vs)).setCell ⟨w.heap.size, 3, none⟩ (.int .i64 0)).alloc (.cells #[.string ⟨vn.toArray⟩, .int .i64 vh, .int .i64 vs, .int .i64 vl] 80)) w.heap.size 41 #[.int .i64 n, .int .i64 vh, .int .i64 vs, .int .i64 0] :=
      ((((HB4.out.set_ 0 (.int .i64 n)).set_ 1 (.int .i64 vh)).set_ 2 (.int .i64 vs)).set_ 3 (.int .i64 0)).alloc _
    have HX := (fr_set4 w2 w.heap.size (.int .i64 n) (.int .i64 vh) (.int .i64 vs) (.int .i64 0)).alloc (.cells #[.string ⟨vn.toArray⟩, .int .i64 vh, .int .i64 vs, .int .i64 vl] 80)
    generalize ((((w2.setCell ⟨w.heap.size, 0, none⟩ (.int .i64 n)).setCell ⟨w.heap.size, 1, none⟩ (.int .i64 vh)).setCell ⟨w.heap.size, 2, none⟩ (.int .i64 vs)).setCell ⟨w.heap.size, 3, none⟩ (.int .i64 0)).alloc (.cells #[.string ⟨vn.toArray⟩, .int .i64 vh, .int .i64 vs, .int .i64 vl] 80) = w3 at *
    have d0 := hd.cell 0
    have d1 := hd.cell 1
    have d2 := hd.cell 2
    have d3 := hd.cell 3
    simp only [List.getElem?_toArray, List.getElem?_cons_zero, List.getElem?_cons_succ] at d0 d1 d2 d3
    refine bodyPost_ret (v := .agg #[.int .i64 n, .int .i64 vh, .int .i64 vs, .int .i64 0]) (by simp [results, Tryz.results102, go_sem, d0, d1, d2, d3]) rfl ?_
    refine ⟨by rw [HR.out]; rfl, HB2.out.fr HX (fun i hi e => ?_), HF2.out.trans' HX fun i hi hlt => ?_⟩
    · have := HH.out.lt i hi
      have : i = w.heap.size := e
      omega
    · have : i = w.heap.size := hi
      omega
  · have HR : Hid (aboutR b.S s.data.toList e0 = ⟨e0, 0, 0, 0⟩) := by show _ = _; unfold aboutR; rw [if_neg h0]; rfl
    have hne : (e0 != 0) = true := by rw [bne_iff_ne]; exact h0
    have hb := Blk.new w 41 #[.int .i64 0, .int .i64 0, .int .i64 0, .int .i64 0]
    have c0 := hb.cell 0
    have c1 := hb.cell 1
    have c2 := hb.cell 2
    have c3 := hb.cell 3
    have f0 := hb.frozen 0
    have f1 := hb.frozen 1
    have f2 := hb.frozen 2
    have f3 := hb.frozen 3
    simp only [List.getElem?_toArray, List.getElem?_cons_zero, List.getElem?_cons_succ] at c0 c1 c2 c3
    clear h h0 hb hs
    go_enter Tryz.func102, Tryz.ntmps102
    go_wp2
    refine bodyPost_ret (v := .agg #[.int .i64 e0, .int .i64 0, .int .i64 0, .int .i64 0]) (by simp [results, Tryz.results102, go_sem, c0, c1, c2, c3, f0, f1, f2, f3]) rfl ?_
    exact ⟨by rw [HR.out]; rfl, HH.out.no ((Fr.refl _ _).alloc _), (Fr.refl _ _).alloc _⟩
set_option maxRecDepth 100000 in
set_option maxHeartbeats 1000000 in
theorem newB_any (w : World) : Calls Tryz.prog 24 #[] w fun e w' => ∃ q : Pl, e = .returned (.pointer (some ⟨q.p, 0, none⟩)) ∧ BkS w' q bk0 ∧ Fr No w w' ∧ ∀ i, q.all i → w.heap.size ≤ i := by
  go_enter Tryz.func24, Tryz.ntmps24
  go_wp2_with fail
  refine (new_any _).mono ?_
  rintro e w1 ⟨c, m, rfl, hc1, hf1, hcl, hml⟩
  go_wp2_with fail
  refine (newH_any _).mono ?_
  rintro e w2 ⟨h, k, rfl, hh2, hf2, hhl, hkl⟩
  have hm := hc1.2.lt
  have hc2 := hc1.no hf2
  have hs1 := hf1.size
  have hs2 := hf2.size
  have HB := Lib.hid (Blk.new w2 108 #[.pointer (some ⟨c, 0, none⟩), .pointer (some ⟨h, 0, none⟩), .int .i64 0])
  have HC2 := Lib.hid hc2
  have HH2 := Lib.hid hh2
  have HF := Lib.hid (hf1.trans hf2)
  clear hc1 hf1 hc2 hh2 hf2
  go_wp2
  go_ret
  refine ⟨⟨w2.heap.size, c, m, h, k⟩, rfl, ⟨HB.out, HC2.out.no ((Fr.refl _ _).alloc _), HH2.out.no ((Fr.refl _ _).alloc _), ?_, bki0⟩, HF.out.alloc _, ?_⟩
  · simp only
    omega
  · intro i hi
    rcases hi with e | e | e | e | e <;> simp only at e <;> omega
end Go.Proofs.YtjbeaoabhhaiiaaGreat

namespace Go.Proofs.YtjbeaoabhhaiiaaGreat
open Go.RowKit Go.My Go.Maps
set_option linter.unusedSimpArgs false
set_option linter.unusedVariables false
attribute [local go_sem ↓] Go.wp_at_zero Go.wp_at_succ

/-- told, and done -/
def DidB (q : Pl) (r : Rp) (b : Bk) (w : World) (e : Ending) (w' : World) : Prop := e = .returned r.val ∧ BkS w' q b ∧ Fr q.wr w w'
theorem eff_inv {b : Bk} (h : BkI b) {o : Od} (ho : o.ok) (hr : rightO o = true) : BkI (effB b o) := by
  have h1 := do_inv h ho
  unfold doB at h1
  rw [if_pos hr] at h1
  exact h1
theorem Pl.far {q : Pl} {w : World} {b : Bk} (h : BkS w q b) {g : Nat} (hg : w.heap.size ≤ g) : ¬ q.wr g := fun e => by
  have := h.lt g (Pl.wr_all e)
  omega
/-- what is written of a book, and one block besides -/
def At3 (m k g : Nat) : Nat → Prop := fun i => i = m ∨ i = k ∨ i = g
theorem blk_set4 {w : World} {g : Nat} {t : TypeId} {x0 x1 x2 x3 : Value} (h : Blk w g t #[x0, x1, x2, x3]) (a b c d : Value) : Blk ((((w.setCell ⟨g, 0, none⟩ a).setCell ⟨g, 1, none⟩ b).setCell ⟨g, 2, none⟩ c).setCell ⟨g, 3, none⟩ d) g t #[a, b, c, d] :=
  (((h.set_ 0 a).set_ 1 b).set_ 2 c).set_ 3 d
theorem did_of {q : Pl} {b b' : Bk} {w w1 u W : World} {g : Nat} (hq : BkS w q b) (hg : w.heap.size ≤ g) (hf : Fr No w w1) (hk : Fr (At2 q.m q.k) w1 u) (hb : BkS u q b') (hx : Fr (At1 g) u W) : BkS W q b' ∧ Fr q.wr w W := by
  have h1 : Fr q.wr w u := (hf.mono (T := q.wr) fun _ _ h => False.elim h).trans (Pl.wr_mk hk)
  refine ⟨hb.fr hx fun i hi e => ?_, h1.trans' hx fun i hi hlt => ?_⟩
  · have := hq.lt i hi
    have : i = g := e
    omega
  · have : i = g := hi
    omega
theorem number_any (a b : Int) (ha : 0 ≤ a ∧ a ≤ 9) (hb : 1 ≤ b ∧ b ≤ 999) (w : World) : Calls Tryz.prog 106 #[.agg #[.int .i64 a, .int .i64 b]] w fun e w' => e = .returned (.int .i64 (1000 * a + b)) ∧ Fr No w w' := by
  obtain ⟨a1, a2⟩ := ha
  obtain ⟨b1, b2⟩ := hb
  go_enter Tryz.func106, Tryz.ntmps106
  go_wp2
  go_ret
  exact ⟨rfl, (Fr.refl _ _).alloc _⟩
set_option maxRecDepth 100000 in
set_option maxHeartbeats 2000000 in
theorem bopen_any (q : Pl) (b : Bk) (o : Od) (v : Value) (w : World) (h : BkS w q b) (ho : o.ok) (hr : rightO o = true) (hk : o.kd = 1) :
    Calls Tryz.prog 65 #[.pointer (some ⟨q.p, 0, none⟩), o.val v] w (DidB q (effR b o) (effB b o) w) := by
  have hI := eff_inv h.inv ho hr
  have eB : effB b o = ⟨openS b.S o.an o.sum, b.H, b.cl⟩ := by unfold effB; rw [if_pos hk]
  have eR : effR b o = aboutR (openS b.S o.an o.sum) o.an (openE b.S o.an o.sum) := by unfold effR; rw [if_pos hk]
  rw [eB] at hI
  rw [eB, eR]
  obtain ⟨-, -, -, hac, hpe, hsm, hpr, hhd, -⟩ := ho
  clear eB eR hr
  obtain ⟨ocl, osq, okd, oac, ope, osm, olg, opr, ohd, ont⟩ := o
  unfold Od.val Od.cs Od.an at *
  simp only at hac hpe hsm hpr hhd hI ⊢
  clear hk
  have HH := Lib.hid h
  have HI := Lib.hid hI
  have HO : Hid (∀ W, Fr No w W → Calls Tryz.prog 103 #[.pointer (some ⟨q.c, 0, none⟩), .string oac, .int .i64 osm] W fun e w' => e = .returned (.int .i64 (openE b.S oac.data.toList osm)) ∧ BkS w' q ⟨openS b.S oac.data.toList osm, b.H, b.cl⟩ ∧ Fr (At2 q.m q.k) W w') := fun W hW =>
    (open_any q.c q.m b.S oac osm W (h.ch.no hW) hac hsm h.inv.st.kp.inv.len).mono fun e w' hx => ⟨hx.1, (h.no hW).chart hx.2.1 hx.2.2 hI, hx.2.2.mono fun _ _ h => .inl h⟩
  generalize openE b.S oac.data.toList osm = E at *
  generalize openS b.S oac.data.toList osm = T at *
  obtain ⟨re, rh, rs, rn, hR⟩ : ∃ a b c d, aboutR T oac.data.toList E = ⟨a, b, c, d⟩ := ⟨_, _, _, _, rfl⟩
  have HAB : Hid (∀ W, BkS W q ⟨T, b.H, b.cl⟩ → Calls Tryz.prog 102 #[.pointer (some ⟨q.p, 0, none⟩), .string oac, .int .i64 E] W fun e w' => e = .returned (.agg #[.int .i64 re, .int .i64 rh, .int .i64 rs, .int .i64 rn]) ∧ BkS w' q ⟨T, b.H, b.cl⟩ ∧ Fr (At2 q.m q.k) W w') := fun W hW => by
    have hx := about_any q ⟨T, b.H, b.cl⟩ oac E W hW hac
    rw [hR] at hx
    exact hx.mono fun e w' h => ⟨h.1, h.2.1, h.2.2.mono fun _ _ h => .inl h⟩
  rw [hR]
  have hfar : ∀ g, w.heap.size ≤ g → ¬ At2 q.m q.k g := fun g hg e => Pl.far h hg (by rcases e with e | e; exact .inr (.inl e); exact .inr (.inr e))
  have hbk := h.blk
  have hbo := Blk.new w 35 #[.int .i64 ocl, .int .i64 osq, .int .i64 okd, .string oac, .string ope, .int .i64 osm, v, .int .i64 opr, .int .i64 ohd, .string ont]
  have hbr := Blk.new (w.alloc (.cells #[.int .i64 ocl, .int .i64 osq, .int .i64 okd, .string oac, .string ope, .int .i64 osm, v, .int .i64 opr, .int .i64 ohd, .string ont] 35)) 41 #[.int .i64 0, .int .i64 0, .int .i64 0, .int .i64 0]
  rw [World.size_alloc] at hbr
  have hbo1 := hbo.alloc (.cells #[.int .i64 0, .int .i64 0, .int .i64 0, .int .i64 0] 41)
  have hf1 : Fr No w ((w.alloc (.cells #[.int .i64 ocl, .int .i64 osq, .int .i64 okd, .string oac, .string ope, .int .i64 osm, v, .int .i64 opr, .int .i64 ohd, .string ont] 35)).alloc (.cells #[.int .i64 0, .int .i64 0, .int .i64 0, .int .i64 0] 41)) := ((Fr.refl _ _).alloc _).alloc _
  have hmp := h.mp
  have hlt : q.p < w.heap.size := h.blk.lt
  clear h hI hR hac hsm hpe hpr hhd hbo
  go_enter Tryz.func65, Tryz.ntmps65
  go_upto_region 1 with (fail)
  generalize ((w.alloc (.cells #[.int .i64 ocl, .int .i64 osq, .int .i64 okd, .string oac, .string ope, .int .i64 osm, v, .int .i64 opr, .int .i64 ohd, .string ont] 35)).alloc (.cells #[.int .i64 0, .int .i64 0, .int .i64 0, .int .i64 0] 41)) = w1 at *
  have HF1 := Lib.hid hf1
  have HBR := Lib.hid hbr
  have HX : Hid (∀ W, Fr (At3 q.m q.k (w.heap.size + 1)) w1 W → Fr (At3 q.m q.k (w.heap.size + 1)) w1 W ∧ W.cell? ⟨q.p, 0, none⟩ = some (.pointer (some ⟨q.c, 0, none⟩)) ∧ W.cell? ⟨q.p, 1, none⟩ = some (.pointer (some ⟨q.h, 0, none⟩)) ∧ W.cell? ⟨w.heap.size, 3, none⟩ = some (.string oac) ∧ W.cell? ⟨w.heap.size, 5, none⟩ = some (.int .i64 osm)) := fun W hW => by
    have h1 := hbo1.fr hW (fun e => by rcases e with e | e | e; exact hfar _ (Nat.le_refl _) (.inl e); exact hfar _ (Nat.le_refl _) (.inr e); omega)
    have h2 := (hbk.fr hf1 (fun h => h)).fr hW (fun e => by rcases e with e | e | e; exact hmp.1 e.symm; exact hmp.2 e.symm; omega)
    exact ⟨hW, h2.cell 0, h2.cell 1, h1.cell 3, h1.cell 5⟩
  have HFAR := Lib.hid hfar
  have hw1 : Fr (At3 q.m q.k (w.heap.size + 1)) w1 w1.drew := (Fr.refl _ w1).drew
  clear hf1 hbr hbo1 hbk hfar hmp hlt
  go_region_held3 (fun W => Fr (At3 q.m q.k (w.heap.size + 1)) w1 W ∧ W.cell? ⟨q.p, 0, none⟩ = some (.pointer (some ⟨q.c, 0, none⟩)) ∧ W.cell? ⟨q.p, 1, none⟩ = some (.pointer (some ⟨q.h, 0, none⟩)) ∧ W.cell? ⟨w.heap.size, 3, none⟩ = some (.string oac) ∧ W.cell? ⟨w.heap.size, 5, none⟩ = some (.int .i64 osm))
    (first
      | (refine HX.out _ ?_; with_reducible assumption)
      | (refine HX.out _ (Fr.trans ?_ ((fr_set4 _ _ _ _ _ _).mono fun _ _ h => .inr (.inr h))); with_reducible assumption))
    (first
      | (go_at_call 103; (with_reducible refine (HO.out _ (HF1.out.drew)).mono ?_); rintro e u1 ⟨rfl, hb1, hg⟩; have ka1 : Fr (At2 q.m q.k) w1 u1 := Fr.trans (Fr.refl _ w1).drew hg; have hg1 : Fr (At3 q.m q.k (w.heap.size + 1)) w1 u1 := ka1.mono (fun _ _ h => by rcases h with h | h; exact .inl h; exact .inr (.inl h)); clear hg)
      | (go_at_call 102; (with_reducible refine (HAB.out _ hb1).mono ?_); rintro e u2 ⟨rfl, hb2, hg⟩; have ka2 : Fr (At2 q.m q.k) w1 u2 := Fr.trans ka1 hg; have hg2 : Fr (At3 q.m q.k (w.heap.size + 1)) w1 u2 := ka2.mono (fun _ _ h => by rcases h with h | h; exact .inl h; exact .inr (.inl h)); clear hg; have hr2 := HBR.out.fr ka2 (HFAR.out _ (Nat.le_succ _)); have c0 := hr2.cell 0; have c1 := hr2.cell 1; have c2 := hr2.cell 2; have c3 := hr2.cell 3; have f0 := hr2.frozen 0; have f1 := hr2.frozen 1; have f2 := hr2.frozen 2; have f3 := hr2.frozen 3; simp only [List.getElem?_toArray, List.getElem?_cons_zero, List.getElem?_cons_succ] at c0 c1 c2 c3))
  all_goals
    have hd := blk_set4 hr2 (.int .i64 re) (.int .i64 rh) (.int .i64 rs) (.int .i64 rn)
    have HD := Lib.hid (did_of HH.out (Nat.le_succ _) HF1.out ka2 hb2 (fr_set4 u2 (w.heap.size + 1) (.int .i64 re) (.int .i64 rh) (.int .i64 rs) (.int .i64 rn)))
    clear c0 c1 c2 c3 f0 f1 f2 f3 hr2 HX
    generalize (((u2.setCell ⟨w.heap.size + 1, 0, none⟩ (.int .i64 re)).setCell ⟨w.heap.size + 1, 1, none⟩ (.int .i64 rh)).setCell ⟨w.heap.size + 1, 2, none⟩ (.int .i64 rs)).setCell ⟨w.heap.size + 1, 3, none⟩ (.int .i64 rn) = u3 at *
    have d0 := hd.cell 0
    have d1 := hd.cell 1
    have d2 := hd.cell 2
    have d3 := hd.cell 3
    simp only [List.getElem?_toArray, List.getElem?_cons_zero, List.getElem?_cons_succ] at d0 d1 d2 d3
    go_wp2
    refine bodyPost_ret (v := .agg #[.int .i64 re, .int .i64 rh, .int .i64 rs, .int .i64 rn]) (by simp [results, Tryz.results65, go_sem, d0, d1, d2, d3]) rfl ?_
    exact ⟨rfl, HD.out⟩
set_option maxRecDepth 100000 in
set_option maxHeartbeats 2000000 in
theorem bcapture_any (q : Pl) (b : Bk) (o : Od) (v : Value) (w : World) (h : BkS w q b) (ho : o.ok) (hr : rightO o = true) (hk : o.kd = 4) (hcl : ¬ o.per ≤ b.cl) :
    Calls Tryz.prog 68 #[.pointer (some ⟨q.p, 0, none⟩), o.val v] w (DidB q (effR b o) (effB b o) w) := by
  have hI := eff_inv h.inv ho hr
  have eB : effB b o = ⟨takeSS b.S b.H o.acct o.hold o.peer o.sum, takeHH b.S b.H o.acct o.hold o.peer o.sum, b.cl⟩ := by unfold effB; rw [if_neg (show ¬ o.kd = 1 by omega), if_neg (show ¬ o.kd = 2 by omega), if_neg (show ¬ o.kd = 3 by omega), if_pos hk, if_neg hcl]
  have eR : effR b o = aboutR (takeSS b.S b.H o.acct o.hold o.peer o.sum) o.an (takeE b.S b.H o.acct o.hold o.peer o.sum) := by unfold effR; rw [if_neg (show ¬ o.kd = 1 by omega), if_neg (show ¬ o.kd = 2 by omega), if_neg (show ¬ o.kd = 3 by omega), if_pos hk, if_neg hcl]
  rw [eB] at hI
  rw [eB, eR]
  obtain ⟨-, -, -, hac, hpe, hsm, hpr, hhd, -⟩ := ho
  clear eB eR hr
  obtain ⟨ocl, osq, okd, oac, ope, osm, olg, opr, ohd, ont⟩ := o
  unfold Od.val Od.cs Od.an at *
  simp only at hac hpe hsm hpr hhd hI hcl ⊢
  clear hk
  have HH := Lib.hid h
  have HI := Lib.hid hI
  have HO : Hid (∀ W, Fr No w W → Calls Tryz.prog 108 #[.pointer (some ⟨q.h, 0, none⟩), .pointer (some ⟨q.c, 0, none⟩), .string oac, .int .i64 ohd, .string ope, .int .i64 osm] W fun e w' => e = .returned (.int .i64 (takeE b.S b.H oac ohd ope osm)) ∧ BkS w' q ⟨takeSS b.S b.H oac ohd ope osm, takeHH b.S b.H oac ohd ope osm, b.cl⟩ ∧ Fr (At2 q.m q.k) W w') := fun W hW =>
    (take_any q.c q.m q.h q.k b.S b.H oac ope ohd osm W (h.ch.no hW) h.inv.st.kp.inv h.inv.st.kp.good (h.hd.no hW) h.inv.st.pos (by have := h.inv.st.len; omega) h.ne hac hpe hhd hsm).mono fun e w' hx => ⟨hx.ret, (h.no hW).both hx hI, hx.fr⟩
  generalize takeE b.S b.H oac ohd ope osm = E at *
  generalize takeSS b.S b.H oac ohd ope osm = T at *
  generalize takeHH b.S b.H oac ohd ope osm = T2 at *
  obtain ⟨re, rh, rs, rn, hR⟩ : ∃ a b c d, aboutR T oac.data.toList E = ⟨a, b, c, d⟩ := ⟨_, _, _, _, rfl⟩
  have HAB : Hid (∀ W, BkS W q ⟨T, T2, b.cl⟩ → Calls Tryz.prog 102 #[.pointer (some ⟨q.p, 0, none⟩), .string oac, .int .i64 E] W fun e w' => e = .returned (.agg #[.int .i64 re, .int .i64 rh, .int .i64 rs, .int .i64 rn]) ∧ BkS w' q ⟨T, T2, b.cl⟩ ∧ Fr (At2 q.m q.k) W w') := fun W hW => by
    have hx := about_any q ⟨T, T2, b.cl⟩ oac E W hW hac
    rw [hR] at hx
    exact hx.mono fun e w' h => ⟨h.1, h.2.1, h.2.2.mono fun _ _ h => .inl h⟩
  rw [hR]
  have hfar : ∀ g, w.heap.size ≤ g → ¬ At2 q.m q.k g := fun g hg e => Pl.far h hg (by rcases e with e | e; exact .inr (.inl e); exact .inr (.inr e))
  have hbk := h.blk
  have hbo := Blk.new w 35 #[.int .i64 ocl, .int .i64 osq, .int .i64 okd, .string oac, .string ope, .int .i64 osm, v, .int .i64 opr, .int .i64 ohd, .string ont]
  have hbr := Blk.new (w.alloc (.cells #[.int .i64 ocl, .int .i64 osq, .int .i64 okd, .string oac, .string ope, .int .i64 osm, v, .int .i64 opr, .int .i64 ohd, .string ont] 35)) 41 #[.int .i64 0, .int .i64 0, .int .i64 0, .int .i64 0]
  rw [World.size_alloc] at hbr
  have hbo1 := hbo.alloc (.cells #[.int .i64 0, .int .i64 0, .int .i64 0, .int .i64 0] 41)
  have hf1 : Fr No w ((w.alloc (.cells #[.int .i64 ocl, .int .i64 osq, .int .i64 okd, .string oac, .string ope, .int .i64 osm, v, .int .i64 opr, .int .i64 ohd, .string ont] 35)).alloc (.cells #[.int .i64 0, .int .i64 0, .int .i64 0, .int .i64 0] 41)) := ((Fr.refl _ _).alloc _).alloc _
  have hmp := h.mp
  have hlt : q.p < w.heap.size := h.blk.lt
  have HCL : Hid (∀ W, Fr No w W → Calls Tryz.prog 104 #[.pointer (some ⟨q.p, 0, none⟩), .int .i64 opr] W fun e w' => e = .returned (.bool false) ∧ W = w') := fun W hW => by
    have hx := isClosed_any q b opr W (h.no hW)
    rw [decide_eq_false hcl] at hx
    exact hx
  clear hcl
  have o7 := hbo1.cell 7
  simp only [List.getElem?_toArray, List.getElem?_cons_zero, List.getElem?_cons_succ] at o7
  clear h hI hR hac hsm hpe hpr hhd hbo
  go_enter Tryz.func68, Tryz.ntmps68
  go_wp2_with fail
  (with_reducible refine (HCL.out _ (((Fr.refl _ _).alloc _).alloc _)).mono ?_)
  rintro e w0 ⟨rfl, rfl⟩
  clear HCL o7
  go_upto_region 3 with (fail)
  generalize ((w.alloc (.cells #[.int .i64 ocl, .int .i64 osq, .int .i64 okd, .string oac, .string ope, .int .i64 osm, v, .int .i64 opr, .int .i64 ohd, .string ont] 35)).alloc (.cells #[.int .i64 0, .int .i64 0, .int .i64 0, .int .i64 0] 41)) = w1 at *
  have HF1 := Lib.hid hf1
  have HBR := Lib.hid hbr
  have HX : Hid (∀ W, Fr (At3 q.m q.k (w.heap.size + 1)) w1 W → Fr (At3 q.m q.k (w.heap.size + 1)) w1 W ∧ W.cell? ⟨q.p, 0, none⟩ = some (.pointer (some ⟨q.c, 0, none⟩)) ∧ W.cell? ⟨q.p, 1, none⟩ = some (.pointer (some ⟨q.h, 0, none⟩)) ∧ W.cell? ⟨w.heap.size, 3, none⟩ = some (.string oac) ∧ W.cell? ⟨w.heap.size, 4, none⟩ = some (.string ope) ∧ W.cell? ⟨w.heap.size, 5, none⟩ = some (.int .i64 osm) ∧ W.cell? ⟨w.heap.size, 8, none⟩ = some (.int .i64 ohd)) := fun W hW => by
    have h1 := hbo1.fr hW (fun e => by rcases e with e | e | e; exact hfar _ (Nat.le_refl _) (.inl e); exact hfar _ (Nat.le_refl _) (.inr e); omega)
    have h2 := (hbk.fr hf1 (fun h => h)).fr hW (fun e => by rcases e with e | e | e; exact hmp.1 e.symm; exact hmp.2 e.symm; omega)
    exact ⟨hW, h2.cell 0, h2.cell 1, h1.cell 3, h1.cell 4, h1.cell 5, h1.cell 8⟩
  have HFAR := Lib.hid hfar
  have hw1 : Fr (At3 q.m q.k (w.heap.size + 1)) w1 w1.drew := (Fr.refl _ w1).drew
  clear hf1 hbr hbo1 hbk hfar hmp hlt
  go_region_held3 (fun W => Fr (At3 q.m q.k (w.heap.size + 1)) w1 W ∧ W.cell? ⟨q.p, 0, none⟩ = some (.pointer (some ⟨q.c, 0, none⟩)) ∧ W.cell? ⟨q.p, 1, none⟩ = some (.pointer (some ⟨q.h, 0, none⟩)) ∧ W.cell? ⟨w.heap.size, 3, none⟩ = some (.string oac) ∧ W.cell? ⟨w.heap.size, 4, none⟩ = some (.string ope) ∧ W.cell? ⟨w.heap.size, 5, none⟩ = some (.int .i64 osm) ∧ W.cell? ⟨w.heap.size, 8, none⟩ = some (.int .i64 ohd))
    (first
      | (refine HX.out _ ?_; with_reducible assumption)
      | (refine HX.out _ (Fr.trans ?_ ((fr_set4 _ _ _ _ _ _).mono fun _ _ h => .inr (.inr h))); with_reducible assumption))
    (first
      | (go_at_call 108; (with_reducible refine (HO.out _ (HF1.out.drew)).mono ?_); rintro e u1 ⟨rfl, hb1, hg⟩; have ka1 : Fr (At2 q.m q.k) w1 u1 := Fr.trans (Fr.refl _ w1).drew hg; have hg1 : Fr (At3 q.m q.k (w.heap.size + 1)) w1 u1 := ka1.mono (fun _ _ h => by rcases h with h | h; exact .inl h; exact .inr (.inl h)); clear hg)
      | (go_at_call 102; (with_reducible refine (HAB.out _ hb1).mono ?_); rintro e u2 ⟨rfl, hb2, hg⟩; have ka2 : Fr (At2 q.m q.k) w1 u2 := Fr.trans ka1 hg; have hg2 : Fr (At3 q.m q.k (w.heap.size + 1)) w1 u2 := ka2.mono (fun _ _ h => by rcases h with h | h; exact .inl h; exact .inr (.inl h)); clear hg; have hr2 := HBR.out.fr ka2 (HFAR.out _ (Nat.le_succ _)); have c0 := hr2.cell 0; have c1 := hr2.cell 1; have c2 := hr2.cell 2; have c3 := hr2.cell 3; have f0 := hr2.frozen 0; have f1 := hr2.frozen 1; have f2 := hr2.frozen 2; have f3 := hr2.frozen 3; simp only [List.getElem?_toArray, List.getElem?_cons_zero, List.getElem?_cons_succ] at c0 c1 c2 c3))
  all_goals
    have hd := blk_set4 hr2 (.int .i64 re) (.int .i64 rh) (.int .i64 rs) (.int .i64 rn)
    have HD := Lib.hid (did_of HH.out (Nat.le_succ _) HF1.out ka2 hb2 (fr_set4 u2 (w.heap.size + 1) (.int .i64 re) (.int .i64 rh) (.int .i64 rs) (.int .i64 rn)))
    clear c0 c1 c2 c3 f0 f1 f2 f3 hr2 HX
    generalize (((u2.setCell ⟨w.heap.size + 1, 0, none⟩ (.int .i64 re)).setCell ⟨w.heap.size + 1, 1, none⟩ (.int .i64 rh)).setCell ⟨w.heap.size + 1, 2, none⟩ (.int .i64 rs)).setCell ⟨w.heap.size + 1, 3, none⟩ (.int .i64 rn) = u3 at *
    have d0 := hd.cell 0
    have d1 := hd.cell 1
    have d2 := hd.cell 2
    have d3 := hd.cell 3
    simp only [List.getElem?_toArray, List.getElem?_cons_zero, List.getElem?_cons_succ] at d0 d1 d2 d3
    go_wp2
    refine bodyPost_ret (v := .agg #[.int .i64 re, .int .i64 rh, .int .i64 rs, .int .i64 rn]) (by simp [results, Tryz.results68, go_sem, d0, d1, d2, d3]) rfl ?_
    exact ⟨rfl, HD.out⟩
set_option maxRecDepth 100000 in
set_option maxHeartbeats 2000000 in
theorem brelease_any (q : Pl) (b : Bk) (o : Od) (v : Value) (w : World) (h : BkS w q b) (ho : o.ok) (hr : rightO o = true) (hk : o.kd = 5) :
    Calls Tryz.prog 69 #[.pointer (some ⟨q.p, 0, none⟩), o.val v] w (DidB q (effR b o) (effB b o) w) := by
  have hI := eff_inv h.inv ho hr
  have eB : effB b o = ⟨freeSS b.S b.H o.an o.hold, freeHH b.S b.H o.an o.hold, b.cl⟩ := by unfold effB; rw [if_neg (show ¬ o.kd = 1 by omega), if_neg (show ¬ o.kd = 2 by omega), if_neg (show ¬ o.kd = 3 by omega), if_neg (show ¬ o.kd = 4 by omega), if_pos hk]
  have eR : effR b o = aboutR (freeSS b.S b.H o.an o.hold) o.an (freeE b.S b.H o.an o.hold) := by unfold effR; rw [if_neg (show ¬ o.kd = 1 by omega), if_neg (show ¬ o.kd = 2 by omega), if_neg (show ¬ o.kd = 3 by omega), if_neg (show ¬ o.kd = 4 by omega), if_pos hk]
  rw [eB] at hI
  rw [eB, eR]
  obtain ⟨-, -, -, hac, hpe, hsm, hpr, hhd, -⟩ := ho
  clear eB eR hr
  obtain ⟨ocl, osq, okd, oac, ope, osm, olg, opr, ohd, ont⟩ := o
  unfold Od.val Od.cs Od.an at *
  simp only at hac hpe hsm hpr hhd hI ⊢
  clear hk
  have HH := Lib.hid h
  have HI := Lib.hid hI
  have HO : Hid (∀ W, Fr No w W → Calls Tryz.prog 109 #[.pointer (some ⟨q.h, 0, none⟩), .pointer (some ⟨q.c, 0, none⟩), .string oac, .int .i64 ohd] W fun e w' => e = .returned (.int .i64 (freeE b.S b.H oac.data.toList ohd)) ∧ BkS w' q ⟨freeSS b.S b.H oac.data.toList ohd, freeHH b.S b.H oac.data.toList ohd, b.cl⟩ ∧ Fr (At2 q.m q.k) W w') := fun W hW =>
    (free_any q.c q.m q.h q.k b.S b.H oac ohd W (h.ch.no hW) h.inv.st.kp.inv (h.hd.no hW) h.inv.st.pos (by have := h.inv.st.len; omega) h.ne hac hhd).mono fun e w' hx => ⟨hx.ret, (h.no hW).both hx hI, hx.fr⟩
  generalize freeE b.S b.H oac.data.toList ohd = E at *
  generalize freeSS b.S b.H oac.data.toList ohd = T at *
  generalize freeHH b.S b.H oac.data.toList ohd = T2 at *
  obtain ⟨re, rh, rs, rn, hR⟩ : ∃ a b c d, aboutR T oac.data.toList E = ⟨a, b, c, d⟩ := ⟨_, _, _, _, rfl⟩
  have HAB : Hid (∀ W, BkS W q ⟨T, T2, b.cl⟩ → Calls Tryz.prog 102 #[.pointer (some ⟨q.p, 0, none⟩), .string oac, .int .i64 E] W fun e w' => e = .returned (.agg #[.int .i64 re, .int .i64 rh, .int .i64 rs, .int .i64 rn]) ∧ BkS w' q ⟨T, T2, b.cl⟩ ∧ Fr (At2 q.m q.k) W w') := fun W hW => by
    have hx := about_any q ⟨T, T2, b.cl⟩ oac E W hW hac
    rw [hR] at hx
    exact hx.mono fun e w' h => ⟨h.1, h.2.1, h.2.2.mono fun _ _ h => .inl h⟩
  rw [hR]
  have hfar : ∀ g, w.heap.size ≤ g → ¬ At2 q.m q.k g := fun g hg e => Pl.far h hg (by rcases e with e | e; exact .inr (.inl e); exact .inr (.inr e))
  have hbk := h.blk
  have hbo := Blk.new w 35 #[.int .i64 ocl, .int .i64 osq, .int .i64 okd, .string oac, .string ope, .int .i64 osm, v, .int .i64 opr, .int .i64 ohd, .string ont]
  have hbr := Blk.new (w.alloc (.cells #[.int .i64 ocl, .int .i64 osq, .int .i64 okd, .string oac, .string ope, .int .i64 osm, v, .int .i64 opr, .int .i64 ohd, .string ont] 35)) 41 #[.int .i64 0, .int .i64 0, .int .i64 0, .int .i64 0]
  rw [World.size_alloc] at hbr
  have hbo1 := hbo.alloc (.cells #[.int .i64 0, .int .i64 0, .int .i64 0, .int .i64 0] 41)
  have hf1 : Fr No w ((w.alloc (.cells #[.int .i64 ocl, .int .i64 osq, .int .i64 okd, .string oac, .string ope, .int .i64 osm, v, .int .i64 opr, .int .i64 ohd, .string ont] 35)).alloc (.cells #[.int .i64 0, .int .i64 0, .int .i64 0, .int .i64 0] 41)) := ((Fr.refl _ _).alloc _).alloc _
  have hmp := h.mp
  have hlt : q.p < w.heap.size := h.blk.lt
  clear h hI hR hac hsm hpe hpr hhd hbo
  go_enter Tryz.func69, Tryz.ntmps69
  go_upto_region 1 with (fail)
  generalize ((w.alloc (.cells #[.int .i64 ocl, .int .i64 osq, .int .i64 okd, .string oac, .string ope, .int .i64 osm, v, .int .i64 opr, .int .i64 ohd, .string ont] 35)).alloc (.cells #[.int .i64 0, .int .i64 0, .int .i64 0, .int .i64 0] 41)) = w1 at *
  have HF1 := Lib.hid hf1
  have HBR := Lib.hid hbr
  have HX : Hid (∀ W, Fr (At3 q.m q.k (w.heap.size + 1)) w1 W → Fr (At3 q.m q.k (w.heap.size + 1)) w1 W ∧ W.cell? ⟨q.p, 0, none⟩ = some (.pointer (some ⟨q.c, 0, none⟩)) ∧ W.cell? ⟨q.p, 1, none⟩ = some (.pointer (some ⟨q.h, 0, none⟩)) ∧ W.cell? ⟨w.heap.size, 3, none⟩ = some (.string oac) ∧ W.cell? ⟨w.heap.size, 8, none⟩ = some (.int .i64 ohd)) := fun W hW => by
    have h1 := hbo1.fr hW (fun e => by rcases e with e | e | e; exact hfar _ (Nat.le_refl _) (.inl e); exact hfar _ (Nat.le_refl _) (.inr e); omega)
    have h2 := (hbk.fr hf1 (fun h => h)).fr hW (fun e => by rcases e with e | e | e; exact hmp.1 e.symm; exact hmp.2 e.symm; omega)
    exact ⟨hW, h2.cell 0, h2.cell 1, h1.cell 3, h1.cell 8⟩
  have HFAR := Lib.hid hfar
  have hw1 : Fr (At3 q.m q.k (w.heap.size + 1)) w1 w1.drew := (Fr.refl _ w1).drew
  clear hf1 hbr hbo1 hbk hfar hmp hlt
  go_region_held3 (fun W => Fr (At3 q.m q.k (w.heap.size + 1)) w1 W ∧ W.cell? ⟨q.p, 0, none⟩ = some (.pointer (some ⟨q.c, 0, none⟩)) ∧ W.cell? ⟨q.p, 1, none⟩ = some (.pointer (some ⟨q.h, 0, none⟩)) ∧ W.cell? ⟨w.heap.size, 3, none⟩ = some (.string oac) ∧ W.cell? ⟨w.heap.size, 8, none⟩ = some (.int .i64 ohd))
    (first
      | (refine HX.out _ ?_; with_reducible assumption)
      | (refine HX.out _ (Fr.trans ?_ ((fr_set4 _ _ _ _ _ _).mono fun _ _ h => .inr (.inr h))); with_reducible assumption))
    (first
      | (go_at_call 109; (with_reducible refine (HO.out _ (HF1.out.drew)).mono ?_); rintro e u1 ⟨rfl, hb1, hg⟩; have ka1 : Fr (At2 q.m q.k) w1 u1 := Fr.trans (Fr.refl _ w1).drew hg; have hg1 : Fr (At3 q.m q.k (w.heap.size + 1)) w1 u1 := ka1.mono (fun _ _ h => by rcases h with h | h; exact .inl h; exact .inr (.inl h)); clear hg)
      | (go_at_call 102; (with_reducible refine (HAB.out _ hb1).mono ?_); rintro e u2 ⟨rfl, hb2, hg⟩; have ka2 : Fr (At2 q.m q.k) w1 u2 := Fr.trans ka1 hg; have hg2 : Fr (At3 q.m q.k (w.heap.size + 1)) w1 u2 := ka2.mono (fun _ _ h => by rcases h with h | h; exact .inl h; exact .inr (.inl h)); clear hg; have hr2 := HBR.out.fr ka2 (HFAR.out _ (Nat.le_succ _)); have c0 := hr2.cell 0; have c1 := hr2.cell 1; have c2 := hr2.cell 2; have c3 := hr2.cell 3; have f0 := hr2.frozen 0; have f1 := hr2.frozen 1; have f2 := hr2.frozen 2; have f3 := hr2.frozen 3; simp only [List.getElem?_toArray, List.getElem?_cons_zero, List.getElem?_cons_succ] at c0 c1 c2 c3))
  all_goals
    have hd := blk_set4 hr2 (.int .i64 re) (.int .i64 rh) (.int .i64 rs) (.int .i64 rn)
    have HD := Lib.hid (did_of HH.out (Nat.le_succ _) HF1.out ka2 hb2 (fr_set4 u2 (w.heap.size + 1) (.int .i64 re) (.int .i64 rh) (.int .i64 rs) (.int .i64 rn)))
    clear c0 c1 c2 c3 f0 f1 f2 f3 hr2 HX
    generalize (((u2.setCell ⟨w.heap.size + 1, 0, none⟩ (.int .i64 re)).setCell ⟨w.heap.size + 1, 1, none⟩ (.int .i64 rh)).setCell ⟨w.heap.size + 1, 2, none⟩ (.int .i64 rs)).setCell ⟨w.heap.size + 1, 3, none⟩ (.int .i64 rn) = u3 at *
    have d0 := hd.cell 0
    have d1 := hd.cell 1
    have d2 := hd.cell 2
    have d3 := hd.cell 3
    simp only [List.getElem?_toArray, List.getElem?_cons_zero, List.getElem?_cons_succ] at d0 d1 d2 d3
    go_wp2
    refine bodyPost_ret (v := .agg #[.int .i64 re, .int .i64 rh, .int .i64 rs, .int .i64 rn]) (by simp [results, Tryz.results69, go_sem, d0, d1, d2, d3]) rfl ?_
    exact ⟨rfl, HD.out⟩
set_option maxRecDepth 100000 in
set_option maxHeartbeats 2000000 in
theorem bpost_any (q : Pl) (b : Bk) (o : Od) (v : Value) (w : World) (h : BkS w q b) (ho : o.ok) (hr : rightO o = true) (hk : o.kd = 2) (F : Nat → Prop) (hv : LgS w F v o.legs) (hF : ∀ k, F k → k < w.heap.size ∧ k ≠ q.m) (hll : o.legs.length ≤ 100) (hcl : ¬ o.per ≤ b.cl) :
    Calls Tryz.prog 66 #[.pointer (some ⟨q.p, 0, none⟩), o.val v] w (DidB q (effR b o) (effB b o) w) := by
  have hI := eff_inv h.inv ho hr
  have eB : effB b o = ⟨makeS b.S o.legs, b.H, b.cl⟩ := by unfold effB; rw [if_neg (show ¬ o.kd = 1 by omega), if_pos hk, if_neg hcl]
  have eR : effR b o = errR (checkE b.S o.legs) := by unfold effR; rw [if_neg (show ¬ o.kd = 1 by omega), if_pos hk, if_neg hcl]
  rw [eB] at hI
  rw [eB, eR]
  obtain ⟨-, -, -, hac, hpe, hsm, hpr, hhd, -⟩ := ho
  clear eB eR hr
  obtain ⟨ocl, osq, okd, oac, ope, osm, olg, opr, ohd, ont⟩ := o
  unfold Od.val Od.cs at *
  simp only at hac hpe hsm hpr hhd hI hcl hv hll ⊢
  clear hk
  have HH := Lib.hid h
  have HI := Lib.hid hI
  have HO : Hid (∀ W, Fr No w W → Calls Tryz.prog 105 #[.pointer (some ⟨q.c, 0, none⟩), v] W fun e w' => e = .returned (.int .i64 (checkE b.S olg)) ∧ BkS w' q ⟨makeS b.S olg, b.H, b.cl⟩ ∧ Fr (At2 q.m q.k) W w') := fun W hW =>
    by
    obtain ⟨A, c, cells, rfl, hrd, hE, h1, h2⟩ := hv.no hW
    exact (make_any q.c q.m b.S F A c cells olg W (h.ch.no hW) h.inv.st.kp.inv hrd (fun k hk => ⟨Nat.lt_of_lt_of_le (hF k hk).1 hW.size, (hF k hk).2⟩) hE hll).mono fun e w' hx => ⟨hx.1, (h.no hW).chart hx.2.1 hx.2.2 hI, hx.2.2.mono fun _ _ h => .inl h⟩
  generalize checkE b.S olg = E at *
  generalize makeS b.S olg = T at *
  have hfar : ∀ g, w.heap.size ≤ g → ¬ At2 q.m q.k g := fun g hg e => Pl.far h hg (by rcases e with e | e; exact .inr (.inl e); exact .inr (.inr e))
  have hbk := h.blk
  have hbo := Blk.new w 35 #[.int .i64 ocl, .int .i64 osq, .int .i64 okd, .string oac, .string ope, .int .i64 osm, v, .int .i64 opr, .int .i64 ohd, .string ont]
  have hbr := Blk.new (w.alloc (.cells #[.int .i64 ocl, .int .i64 osq, .int .i64 okd, .string oac, .string ope, .int .i64 osm, v, .int .i64 opr, .int .i64 ohd, .string ont] 35)) 41 #[.int .i64 0, .int .i64 0, .int .i64 0, .int .i64 0]
  rw [World.size_alloc] at hbr
  have hbo1 := hbo.alloc (.cells #[.int .i64 0, .int .i64 0, .int .i64 0, .int .i64 0] 41)
  have hf1 : Fr No w ((w.alloc (.cells #[.int .i64 ocl, .int .i64 osq, .int .i64 okd, .string oac, .string ope, .int .i64 osm, v, .int .i64 opr, .int .i64 ohd, .string ont] 35)).alloc (.cells #[.int .i64 0, .int .i64 0, .int .i64 0, .int .i64 0] 41)) := ((Fr.refl _ _).alloc _).alloc _
  have hmp := h.mp
  have hlt : q.p < w.heap.size := h.blk.lt
  have HCL : Hid (∀ W, Fr No w W → Calls Tryz.prog 104 #[.pointer (some ⟨q.p, 0, none⟩), .int .i64 opr] W fun e w' => e = .returned (.bool false) ∧ W = w') := fun W hW => by
    have hx := isClosed_any q b opr W (h.no hW)
    rw [decide_eq_false hcl] at hx
    exact hx
  clear hcl
  have o7 := hbo1.cell 7
  simp only [List.getElem?_toArray, List.getElem?_cons_zero, List.getElem?_cons_succ] at o7
  clear h hI hac hsm hpe hpr hhd hbo hv hF hll
  go_enter Tryz.func66, Tryz.ntmps66
  go_wp2_with fail
  (with_reducible refine (HCL.out _ (((Fr.refl _ _).alloc _).alloc _)).mono ?_)
  rintro e w0 ⟨rfl, rfl⟩
  clear HCL o7
  go_upto_region 3 with (fail)
  generalize ((w.alloc (.cells #[.int .i64 ocl, .int .i64 osq, .int .i64 okd, .string oac, .string ope, .int .i64 osm, v, .int .i64 opr, .int .i64 ohd, .string ont] 35)).alloc (.cells #[.int .i64 0, .int .i64 0, .int .i64 0, .int .i64 0] 41)) = w1 at *
  have HF1 := Lib.hid hf1
  have HBR := Lib.hid hbr
  have HX : Hid (∀ W, Fr (At3 q.m q.k (w.heap.size + 1)) w1 W → Fr (At3 q.m q.k (w.heap.size + 1)) w1 W ∧ W.cell? ⟨q.p, 0, none⟩ = some (.pointer (some ⟨q.c, 0, none⟩)) ∧ W.cell? ⟨q.p, 1, none⟩ = some (.pointer (some ⟨q.h, 0, none⟩)) ∧ W.cell? ⟨w.heap.size, 6, none⟩ = some (v)) := fun W hW => by
    have h1 := hbo1.fr hW (fun e => by rcases e with e | e | e; exact hfar _ (Nat.le_refl _) (.inl e); exact hfar _ (Nat.le_refl _) (.inr e); omega)
    have h2 := (hbk.fr hf1 (fun h => h)).fr hW (fun e => by rcases e with e | e | e; exact hmp.1 e.symm; exact hmp.2 e.symm; omega)
    exact ⟨hW, h2.cell 0, h2.cell 1, h1.cell 6⟩
  have HFAR := Lib.hid hfar
  have hw1 : Fr (At3 q.m q.k (w.heap.size + 1)) w1 w1.drew := (Fr.refl _ w1).drew
  clear hf1 hbr hbo1 hbk hfar hmp hlt
  go_region_held3 (fun W => Fr (At3 q.m q.k (w.heap.size + 1)) w1 W ∧ W.cell? ⟨q.p, 0, none⟩ = some (.pointer (some ⟨q.c, 0, none⟩)) ∧ W.cell? ⟨q.p, 1, none⟩ = some (.pointer (some ⟨q.h, 0, none⟩)) ∧ W.cell? ⟨w.heap.size, 6, none⟩ = some (v))
    (first
      | (refine HX.out _ ?_; with_reducible assumption)
      | (refine HX.out _ (Fr.trans ?_ ((fr_set4 _ _ _ _ _ _).mono fun _ _ h => .inr (.inr h))); with_reducible assumption))
    (first
      | (go_at_call 105; (with_reducible refine (HO.out _ (HF1.out.drew)).mono ?_); rintro e u2 ⟨rfl, hb2, hg⟩; have ka2 : Fr (At2 q.m q.k) w1 u2 := Fr.trans (Fr.refl _ w1).drew hg; have hg2 : Fr (At3 q.m q.k (w.heap.size + 1)) w1 u2 := ka2.mono (fun _ _ h => by rcases h with h | h; exact .inl h; exact .inr (.inl h)); clear hg; have hr2 := HBR.out.fr ka2 (HFAR.out _ (Nat.le_succ _)); have c0 := hr2.cell 0; have c1 := hr2.cell 1; have c2 := hr2.cell 2; have c3 := hr2.cell 3; have f0 := hr2.frozen 0; have f1 := hr2.frozen 1; have f2 := hr2.frozen 2; have f3 := hr2.frozen 3; simp only [List.getElem?_toArray, List.getElem?_cons_zero, List.getElem?_cons_succ] at c0 c1 c2 c3))
  all_goals
    have hd := blk_set4 hr2 (.int .i64 E) (.int .i64 0) (.int .i64 0) (.int .i64 0)
    have HD := Lib.hid (did_of HH.out (Nat.le_succ _) HF1.out ka2 hb2 (fr_set4 u2 (w.heap.size + 1) (.int .i64 E) (.int .i64 0) (.int .i64 0) (.int .i64 0)))
    clear c0 c1 c2 c3 f0 f1 f2 f3 hr2 HX
    generalize (((u2.setCell ⟨w.heap.size + 1, 0, none⟩ (.int .i64 E)).setCell ⟨w.heap.size + 1, 1, none⟩ (.int .i64 0)).setCell ⟨w.heap.size + 1, 2, none⟩ (.int .i64 0)).setCell ⟨w.heap.size + 1, 3, none⟩ (.int .i64 0) = u3 at *
    have d0 := hd.cell 0
    have d1 := hd.cell 1
    have d2 := hd.cell 2
    have d3 := hd.cell 3
    simp only [List.getElem?_toArray, List.getElem?_cons_zero, List.getElem?_cons_succ] at d0 d1 d2 d3
    go_wp2
    refine bodyPost_ret (v := .agg #[.int .i64 E, .int .i64 0, .int .i64 0, .int .i64 0]) (by simp [results, Tryz.results66, go_sem, d0, d1, d2, d3]) rfl ?_
    exact ⟨rfl, HD.out⟩
set_option maxRecDepth 100000 in
set_option maxHeartbeats 2000000 in
theorem bpost_closed (q : Pl) (b : Bk) (o : Od) (v : Value) (w : World) (h : BkS w q b) (hk : o.kd = 2) (hcl : o.per ≤ b.cl) :
    Calls Tryz.prog 66 #[.pointer (some ⟨q.p, 0, none⟩), o.val v] w (DidB q (effR b o) (effB b o) w) := by
  have eB : effB b o = b := by unfold effB; rw [if_neg (show ¬ o.kd = 1 by omega), if_pos hk, if_pos hcl]
  have eR : effR b o = errR 10 := by unfold effR; rw [if_neg (show ¬ o.kd = 1 by omega), if_pos hk, if_pos hcl]
  rw [eB, eR]
  clear eB eR hk
  obtain ⟨ocl, osq, okd, oac, ope, osm, olg, opr, ohd, ont⟩ := o
  unfold Od.val Od.cs at *
  simp only at hcl ⊢
  have HH := Lib.hid h
  have HCL : Hid (∀ W, Fr No w W → Calls Tryz.prog 104 #[.pointer (some ⟨q.p, 0, none⟩), .int .i64 opr] W fun e w' => e = .returned (.bool true) ∧ W = w') := fun W hW => by
    have hx := isClosed_any q b opr W (h.no hW)
    rw [decide_eq_true hcl] at hx
    exact hx
  have hbo := Blk.new w 35 #[.int .i64 ocl, .int .i64 osq, .int .i64 okd, .string oac, .string ope, .int .i64 osm, v, .int .i64 opr, .int .i64 ohd, .string ont]
  have hbr := Blk.new (w.alloc (.cells #[.int .i64 ocl, .int .i64 osq, .int .i64 okd, .string oac, .string ope, .int .i64 osm, v, .int .i64 opr, .int .i64 ohd, .string ont] 35)) 41 #[.int .i64 10, .int .i64 0, .int .i64 0, .int .i64 0]
  rw [World.size_alloc] at hbr
  have hbo1 := hbo.alloc (.cells #[.int .i64 0, .int .i64 0, .int .i64 0, .int .i64 0] 41)
  have o7 := hbo1.cell 7
  simp only [List.getElem?_toArray, List.getElem?_cons_zero, List.getElem?_cons_succ] at o7
  clear h hcl hbo hbo1
  go_enter Tryz.func66, Tryz.ntmps66
  go_wp2_with fail
  (with_reducible refine (HCL.out _ (((Fr.refl _ _).alloc _).alloc _)).mono ?_)
  rintro e w0 ⟨rfl, rfl⟩
  clear HCL o7
  have d0 := hbr.cell 0
  have d1 := hbr.cell 1
  have d2 := hbr.cell 2
  have d3 := hbr.cell 3
  simp only [List.getElem?_toArray, List.getElem?_cons_zero, List.getElem?_cons_succ] at d0 d1 d2 d3
  clear hbr
  go_wp2
  refine bodyPost_ret (v := .agg #[.int .i64 10, .int .i64 0, .int .i64 0, .int .i64 0]) (by simp [results, Tryz.results66, go_sem, d0, d1, d2, d3]) rfl ?_
  exact ⟨rfl, HH.out.no (((Fr.refl _ _).alloc _).alloc _), ((Fr.refl _ _).alloc _).alloc _⟩
set_option maxRecDepth 100000 in
set_option maxHeartbeats 2000000 in
theorem bcapture_closed (q : Pl) (b : Bk) (o : Od) (v : Value) (w : World) (h : BkS w q b) (hk : o.kd = 4) (hcl : o.per ≤ b.cl) :
    Calls Tryz.prog 68 #[.pointer (some ⟨q.p, 0, none⟩), o.val v] w (DidB q (effR b o) (effB b o) w) := by
  have eB : effB b o = b := by unfold effB; rw [if_neg (show ¬ o.kd = 1 by omega), if_neg (show ¬ o.kd = 2 by omega), if_neg (show ¬ o.kd = 3 by omega), if_pos hk, if_pos hcl]
  have eR : effR b o = errR 10 := by unfold effR; rw [if_neg (show ¬ o.kd = 1 by omega), if_neg (show ¬ o.kd = 2 by omega), if_neg (show ¬ o.kd = 3 by omega), if_pos hk, if_pos hcl]
  rw [eB, eR]
  clear eB eR hk
  obtain ⟨ocl, osq, okd, oac, ope, osm, olg, opr, ohd, ont⟩ := o
  unfold Od.val Od.cs at *
  simp only at hcl ⊢
  have HH := Lib.hid h
  have HCL : Hid (∀ W, Fr No w W → Calls Tryz.prog 104 #[.pointer (some ⟨q.p, 0, none⟩), .int .i64 opr] W fun e w' => e = .returned (.bool true) ∧ W = w') := fun W hW => by
    have hx := isClosed_any q b opr W (h.no hW)
    rw [decide_eq_true hcl] at hx
    exact hx
  have hbo := Blk.new w 35 #[.int .i64 ocl, .int .i64 osq, .int .i64 okd, .string oac, .string ope, .int .i64 osm, v, .int .i64 opr, .int .i64 ohd, .string ont]
  have hbr := Blk.new (w.alloc (.cells #[.int .i64 ocl, .int .i64 osq, .int .i64 okd, .string oac, .string ope, .int .i64 osm, v, .int .i64 opr, .int .i64 ohd, .string ont] 35)) 41 #[.int .i64 10, .int .i64 0, .int .i64 0, .int .i64 0]
  rw [World.size_alloc] at hbr
  have hbo1 := hbo.alloc (.cells #[.int .i64 0, .int .i64 0, .int .i64 0, .int .i64 0] 41)
  have o7 := hbo1.cell 7
  simp only [List.getElem?_toArray, List.getElem?_cons_zero, List.getElem?_cons_succ] at o7
  clear h hcl hbo hbo1
  go_enter Tryz.func68, Tryz.ntmps68
  go_wp2_with fail
  (with_reducible refine (HCL.out _ (((Fr.refl _ _).alloc _).alloc _)).mono ?_)
  rintro e w0 ⟨rfl, rfl⟩
  clear HCL o7
  have d0 := hbr.cell 0
  have d1 := hbr.cell 1
  have d2 := hbr.cell 2
  have d3 := hbr.cell 3
  simp only [List.getElem?_toArray, List.getElem?_cons_zero, List.getElem?_cons_succ] at d0 d1 d2 d3
  clear hbr
  go_wp2
  refine bodyPost_ret (v := .agg #[.int .i64 10, .int .i64 0, .int .i64 0, .int .i64 0]) (by simp [results, Tryz.results68, go_sem, d0, d1, d2, d3]) rfl ?_
  exact ⟨rfl, HH.out.no (((Fr.refl _ _).alloc _).alloc _), ((Fr.refl _ _).alloc _).alloc _⟩
set_option maxRecDepth 100000 in
set_option maxHeartbeats 2000000 in
theorem bclose_closed (q : Pl) (b : Bk) (o : Od) (v : Value) (w : World) (h : BkS w q b) (hk : o.kd = 6) (hcl : o.per ≤ b.cl) :
    Calls Tryz.prog 70 #[.pointer (some ⟨q.p, 0, none⟩), o.val v] w (DidB q (effR b o) (effB b o) w) := by
  have eB : effB b o = b := by unfold effB; rw [if_neg (show ¬ o.kd = 1 by omega), if_neg (show ¬ o.kd = 2 by omega), if_neg (show ¬ o.kd = 3 by omega), if_neg (show ¬ o.kd = 4 by omega), if_neg (show ¬ o.kd = 5 by omega), if_pos hk, if_pos hcl]
  have eR : effR b o = errR 10 := by unfold effR; rw [if_neg (show ¬ o.kd = 1 by omega), if_neg (show ¬ o.kd = 2 by omega), if_neg (show ¬ o.kd = 3 by omega), if_neg (show ¬ o.kd = 4 by omega), if_neg (show ¬ o.kd = 5 by omega), if_pos hk, if_pos hcl]
  rw [eB, eR]
  clear eB eR hk
  obtain ⟨ocl, osq, okd, oac, ope, osm, olg, opr, ohd, ont⟩ := o
  unfold Od.val Od.cs at *
  simp only at hcl ⊢
  have HH := Lib.hid h
  have HCL : Hid (∀ W, Fr No w W → Calls Tryz.prog 104 #[.pointer (some ⟨q.p, 0, none⟩), .int .i64 opr] W fun e w' => e = .returned (.bool true) ∧ W = w') := fun W hW => by
    have hx := isClosed_any q b opr W (h.no hW)
    rw [decide_eq_true hcl] at hx
    exact hx
  have hbo := Blk.new w 35 #[.int .i64 ocl, .int .i64 osq, .int .i64 okd, .string oac, .string ope, .int .i64 osm, v, .int .i64 opr, .int .i64 ohd, .string ont]
  have hbr := Blk.new (w.alloc (.cells #[.int .i64 ocl, .int .i64 osq, .int .i64 okd, .string oac, .string ope, .int .i64 osm, v, .int .i64 opr, .int .i64 ohd, .string ont] 35)) 41 #[.int .i64 10, .int .i64 0, .int .i64 0, .int .i64 0]
  rw [World.size_alloc] at hbr
  have hbo1 := hbo.alloc (.cells #[.int .i64 0, .int .i64 0, .int .i64 0, .int .i64 0] 41)
  have o7 := hbo1.cell 7
  simp only [List.getElem?_toArray, List.getElem?_cons_zero, List.getElem?_cons_succ] at o7
  clear h hcl hbo hbo1
  go_enter Tryz.func70, Tryz.ntmps70
  go_wp2_with fail
  (with_reducible refine (HCL.out _ (((Fr.refl _ _).alloc _).alloc _)).mono ?_)
  rintro e w0 ⟨rfl, rfl⟩
  clear HCL o7
  have d0 := hbr.cell 0
  have d1 := hbr.cell 1
  have d2 := hbr.cell 2
  have d3 := hbr.cell 3
  simp only [List.getElem?_toArray, List.getElem?_cons_zero, List.getElem?_cons_succ] at d0 d1 d2 d3
  clear hbr
  go_wp2
  refine bodyPost_ret (v := .agg #[.int .i64 10, .int .i64 0, .int .i64 0, .int .i64 0]) (by simp [results, Tryz.results70, go_sem, d0, d1, d2, d3]) rfl ?_
  exact ⟨rfl, HH.out.no (((Fr.refl _ _).alloc _).alloc _), ((Fr.refl _ _).alloc _).alloc _⟩
set_option maxRecDepth 100000 in
set_option maxHeartbeats 2000000 in
theorem bask_any (q : Pl) (b : Bk) (o : Od) (v : Value) (w : World) (h : BkS w q b) (ho : o.ok) (hk : o.kd = 7) :
    Calls Tryz.prog 71 #[.pointer (some ⟨q.p, 0, none⟩), o.val v] w (DidB q (effR b o) (effB b o) w) := by
  have eB : effB b o = b := by unfold effB; rw [if_neg (show ¬ o.kd = 1 by omega), if_neg (show ¬ o.kd = 2 by omega), if_neg (show ¬ o.kd = 3 by omega), if_neg (show ¬ o.kd = 4 by omega), if_neg (show ¬ o.kd = 5 by omega), if_neg (show ¬ o.kd = 6 by omega)]
  have eR : effR b o = aboutR b.S o.an 0 := by unfold effR; rw [if_neg (show ¬ o.kd = 1 by omega), if_neg (show ¬ o.kd = 2 by omega), if_neg (show ¬ o.kd = 3 by omega), if_neg (show ¬ o.kd = 4 by omega), if_neg (show ¬ o.kd = 5 by omega), if_neg (show ¬ o.kd = 6 by omega)]
  rw [eB, eR]
  obtain ⟨-, -, -, hac, -⟩ := ho
  clear eB eR hk
  obtain ⟨ocl, osq, okd, oac, ope, osm, olg, opr, ohd, ont⟩ := o
  unfold Od.val Od.cs Od.an at *
  simp only at hac ⊢
  obtain ⟨re, rh, rs, rn, hR⟩ : ∃ a b' c d, aboutR b.S oac.data.toList 0 = ⟨a, b', c, d⟩ := ⟨_, _, _, _, rfl⟩
  have HAB : Hid (∀ W, Fr No w W → Calls Tryz.prog 102 #[.pointer (some ⟨q.p, 0, none⟩), .string oac, .int .i64 0] W fun e w' => e = .returned (.agg #[.int .i64 re, .int .i64 rh, .int .i64 rs, .int .i64 rn]) ∧ BkS w' q b ∧ Fr (At1 q.m) W w') := fun W hW => by
    have hx := about_any q b oac 0 W (h.no hW) hac
    rw [hR] at hx
    exact hx
  rw [hR]
  have HH := Lib.hid h
  have hml := h.ch.2.lt
  have hbo := Blk.new w 35 #[.int .i64 ocl, .int .i64 osq, .int .i64 okd, .string oac, .string ope, .int .i64 osm, v, .int .i64 opr, .int .i64 ohd, .string ont]
  have hbr := Blk.new (w.alloc (.cells #[.int .i64 ocl, .int .i64 osq, .int .i64 okd, .string oac, .string ope, .int .i64 osm, v, .int .i64 opr, .int .i64 ohd, .string ont] 35)) 41 #[.int .i64 0, .int .i64 0, .int .i64 0, .int .i64 0]
  rw [World.size_alloc] at hbr
  have hbo1 := hbo.alloc (.cells #[.int .i64 0, .int .i64 0, .int .i64 0, .int .i64 0] 41)
  have hf1 : Fr No w ((w.alloc (.cells #[.int .i64 ocl, .int .i64 osq, .int .i64 okd, .string oac, .string ope, .int .i64 osm, v, .int .i64 opr, .int .i64 ohd, .string ont] 35)).alloc (.cells #[.int .i64 0, .int .i64 0, .int .i64 0, .int .i64 0] 41)) := ((Fr.refl _ _).alloc _).alloc _
  have o3 := hbo1.cell 3
  simp only [List.getElem?_toArray, List.getElem?_cons_zero, List.getElem?_cons_succ] at o3
  clear h hbo hbo1 hac hR
  go_enter Tryz.func71, Tryz.ntmps71
  go_wp2_with fail
  (with_reducible refine (HAB.out _ (((Fr.refl _ _).alloc _).alloc _)).mono ?_)
  generalize ((w.alloc (.cells #[.int .i64 ocl, .int .i64 osq, .int .i64 okd, .string oac, .string ope, .int .i64 osm, v, .int .i64 opr, .int .i64 ohd, .string ont] 35)).alloc (.cells #[.int .i64 0, .int .i64 0, .int .i64 0, .int .i64 0] 41)) = w1 at *
  rintro e u2 ⟨rfl, hb2, hg⟩
  have hr2 := hbr.fr hg (fun e => by have : w.heap.size + 1 = q.m := e; omega)
  have hd := blk_set4 hr2 (.int .i64 re) (.int .i64 rh) (.int .i64 rs) (.int .i64 rn)
  have HD := Lib.hid (did_of HH.out (Nat.le_succ _) hf1 (hg.mono fun _ _ h => .inl h) hb2 (fr_set4 u2 (w.heap.size + 1) (.int .i64 re) (.int .i64 rh) (.int .i64 rs) (.int .i64 rn)))
  have HDD := Lib.hid hd
  have c0 := hr2.cell 0
  have c1 := hr2.cell 1
  have c2 := hr2.cell 2
  have c3 := hr2.cell 3
  have f0 := hr2.frozen 0
  have f1 := hr2.frozen 1
  have f2 := hr2.frozen 2
  have f3 := hr2.frozen 3
  simp only [List.getElem?_toArray, List.getElem?_cons_zero, List.getElem?_cons_succ] at c0 c1 c2 c3
  clear HAB o3 hbr hf1 hg hr2 hb2 hd
  go_wp2
  have hd := HDD.out
  have d0 := hd.cell 0
  have d1 := hd.cell 1
  have d2 := hd.cell 2
  have d3 := hd.cell 3
  simp only [List.getElem?_toArray, List.getElem?_cons_zero, List.getElem?_cons_succ] at d0 d1 d2 d3
  refine bodyPost_ret (v := .agg #[.int .i64 re, .int .i64 rh, .int .i64 rs, .int .i64 rn]) (by simp [results, Tryz.results71, go_sem, d0, d1, d2, d3]) rfl ?_
  exact ⟨rfl, HD.out⟩
set_option maxRecDepth 100000 in
set_option maxHeartbeats 2000000 in
theorem bclose_any (q : Pl) (b : Bk) (o : Od) (v : Value) (w : World) (h : BkS w q b) (ho : o.ok) (hr : rightO o = true) (hk : o.kd = 6) (hcl : ¬ o.per ≤ b.cl) :
    Calls Tryz.prog 70 #[.pointer (some ⟨q.p, 0, none⟩), o.val v] w (DidB q (effR b o) (effB b o) w) := by
  have hI := eff_inv h.inv ho hr
  have eB : effB b o = ⟨b.S, b.H, o.per⟩ := by unfold effB; rw [if_neg (show ¬ o.kd = 1 by omega), if_neg (show ¬ o.kd = 2 by omega), if_neg (show ¬ o.kd = 3 by omega), if_neg (show ¬ o.kd = 4 by omega), if_neg (show ¬ o.kd = 5 by omega), if_pos hk, if_neg hcl]
  have eR : effR b o = ⟨0, 0, 0, o.per⟩ := by unfold effR; rw [if_neg (show ¬ o.kd = 1 by omega), if_neg (show ¬ o.kd = 2 by omega), if_neg (show ¬ o.kd = 3 by omega), if_neg (show ¬ o.kd = 4 by omega), if_neg (show ¬ o.kd = 5 by omega), if_pos hk, if_neg hcl]
  rw [eB] at hI
  rw [eB, eR]
  clear eB eR hk hr ho
  obtain ⟨ocl, osq, okd, oac, ope, osm, olg, opr, ohd, ont⟩ := o
  unfold Od.val Od.cs at *
  simp only at hcl hI ⊢
  have HH := Lib.hid h
  have HI := Lib.hid hI
  have HCL : Hid (∀ W, Fr No w W → Calls Tryz.prog 104 #[.pointer (some ⟨q.p, 0, none⟩), .int .i64 opr] W fun e w' => e = .returned (.bool false) ∧ W = w') := fun W hW => by
    have hx := isClosed_any q b opr W (h.no hW)
    rw [decide_eq_false hcl] at hx
    exact hx
  have hbo := Blk.new w 35 #[.int .i64 ocl, .int .i64 osq, .int .i64 okd, .string oac, .string ope, .int .i64 osm, v, .int .i64 opr, .int .i64 ohd, .string ont]
  have hbr := Blk.new (w.alloc (.cells #[.int .i64 ocl, .int .i64 osq, .int .i64 okd, .string oac, .string ope, .int .i64 osm, v, .int .i64 opr, .int .i64 ohd, .string ont] 35)) 41 #[.int .i64 0, .int .i64 0, .int .i64 0, .int .i64 0]
  rw [World.size_alloc] at hbr
  have hbo1 := hbo.alloc (.cells #[.int .i64 0, .int .i64 0, .int .i64 0, .int .i64 0] 41)
  have hf1 : Fr No w ((w.alloc (.cells #[.int .i64 ocl, .int .i64 osq, .int .i64 okd, .string oac, .string ope, .int .i64 osm, v, .int .i64 opr, .int .i64 ohd, .string ont] 35)).alloc (.cells #[.int .i64 0, .int .i64 0, .int .i64 0, .int .i64 0] 41)) := ((Fr.refl _ _).alloc _).alloc _
  have hbk := h.blk.fr hf1 (fun h => h)
  have hpl := h.blk.lt
  clear h hI hcl hbo
  have o7 := hbo1.cell 7
  simp only [List.getElem?_toArray, List.getElem?_cons_zero, List.getElem?_cons_succ] at o7
  go_enter Tryz.func70, Tryz.ntmps70
  go_wp2_with fail
  (with_reducible refine (HCL.out _ (((Fr.refl _ _).alloc _).alloc _)).mono ?_)
  rintro e w0 ⟨rfl, rfl⟩
  generalize ((w.alloc (.cells #[.int .i64 ocl, .int .i64 osq, .int .i64 okd, .string oac, .string ope, .int .i64 osm, v, .int .i64 opr, .int .i64 ohd, .string ont] 35)).alloc (.cells #[.int .i64 0, .int .i64 0, .int .i64 0, .int .i64 0] 41)) = w1 at *
  have b2 := hbk.cell 2
  have fb2 := hbk.frozen 2
  have r0 := hbr.cell 0
  have r1 := hbr.cell 1
  have r2 := hbr.cell 2
  have r3 := hbr.cell 3
  have f0 := hbr.frozen 0
  have f1 := hbr.frozen 1
  have f2 := hbr.frozen 2
  have f3 := hbr.frozen 3
  simp only [List.getElem?_toArray, List.getElem?_cons_zero, List.getElem?_cons_succ] at b2 r0 r1 r2 r3
  have hne : w.heap.size ≠ q.p := by omega
  have hne2 : w.heap.size + 1 ≠ q.p := by omega
  have hA := fr_set w1 q.p 2 (.int .i64 opr)
  have hrA := hbr.fr hA (fun e => hne2 e)
  have hd := blk_set4 hrA (.int .i64 0) (.int .i64 0) (.int .i64 0) (.int .i64 opr)
  have hB := fr_set4 (w1.setCell ⟨q.p, 2, none⟩ (.int .i64 opr)) (w.heap.size + 1) (.int .i64 0) (.int .i64 0) (.int .i64 0) (.int .i64 opr)
  have HBK : Hid (BkS (((((w1.setCell ⟨q.p, 2, none⟩ (.int .i64 opr)).setCell ⟨w.heap.size + 1, 0, none⟩ (.int .i64 0)).setCell ⟨w.heap.size + 1, 1, none⟩ (.int .i64 0)).setCell ⟨w.heap.size + 1, 2, none⟩ (.int .i64 0)).setCell ⟨w.heap.size + 1, 3, none⟩ (.int .i64 opr)) q ⟨b.S, b.H, opr⟩ ∧ Fr q.wr w (((((w1.setCell ⟨q.p, 2, none⟩ (.int .i64 opr)).setCell ⟨w.heap.size + 1, 0, none⟩ (.int .i64 0)).setCell ⟨w.heap.size + 1, 1, none⟩ (.int .i64 0)).setCell ⟨w.heap.size + 1, 2, none⟩ (.int .i64 0)).setCell ⟨w.heap.size + 1, 3, none⟩ (.int .i64 opr))) := by
    have h1 := HH.out.no hf1
    have hA1 : BkS (w1.setCell ⟨q.p, 2, none⟩ (.int .i64 opr)) q ⟨b.S, b.H, opr⟩ :=
      ⟨h1.blk.set_ 2 (.int .i64 opr), h1.ch.fr hA (fun e => Blk.ne_ h1.ch.1 h1.blk (by decide) e) (fun e => h1.mp.1 e), h1.hd.fr hA (fun e => Blk.ne_ h1.hd.1 h1.blk (by decide) e) (fun e => h1.mp.2 e), h1.ne, HI.out⟩
    refine ⟨hA1.fr hB fun i hi e => ?_, ((hf1.mono (T := q.wr) fun _ _ h => False.elim h).trans (hA.mono fun _ _ h => .inl h)).trans' hB fun i hi hlt => ?_⟩
    · have := HH.out.lt i hi
      have : i = w.heap.size + 1 := e
      omega
    · have : i = w.heap.size + 1 := hi
      omega
  have HDD := Lib.hid hd
  have o7b := (hbo1.fr hA (fun e => hne e)).cell 7
  simp only [List.getElem?_toArray, List.getElem?_cons_zero, List.getElem?_cons_succ] at o7b
  clear hA hB hd hrA hbo1 hbk hbr hf1 HCL
  go_wp2
  have hd := HDD.out
  have d0 := hd.cell 0
  have d1 := hd.cell 1
  have d2 := hd.cell 2
  have d3 := hd.cell 3
  simp only [List.getElem?_toArray, List.getElem?_cons_zero, List.getElem?_cons_succ] at d0 d1 d2 d3
  refine bodyPost_ret (v := .agg #[.int .i64 0, .int .i64 0, .int .i64 0, .int .i64 opr]) (by simp [results, Tryz.results70, go_sem, d0, d1, d2, d3]) rfl ?_
  exact ⟨rfl, HBK.out⟩
end Go.Proofs.YtjbeaoabhhaiiaaGreat

namespace Go.Proofs.YtjbeaoabhhaiiaaGreat
open Go.RowKit Go.My Go.Maps
set_option linter.unusedSimpArgs false
set_option linter.unusedVariables false
attribute [local go_sem ↓] Go.wp_at_zero Go.wp_at_succ

theorem keep_set4 {S : Nat → Prop} {w1 u : World} {g : Nat} {a b c d : Value} (h : Fr S w1 u) (hg : w1.heap.size ≤ g) : Fr S w1 ((((u.setCell ⟨g, 0, none⟩ a).setCell ⟨g, 1, none⟩ b).setCell ⟨g, 2, none⟩ c).setCell ⟨g, 3, none⟩ d) :=
  h.trans' (fr_set4 u g a b c d) fun i hi hlt => by
    have : i = g := hi
    omega
theorem did_tail {q : Pl} {b b' : Bk} {w u V W : World} {g r : Nat} (hq : BkS w q b) (h : BkS u q b' ∧ Fr q.wr w u) (hB : Fr (At1 g) u V) (hC : Fr (At1 r) V W) (hg : w.heap.size ≤ g) (hr : w.heap.size ≤ r) : BkS W q b' ∧ Fr q.wr w W := by
  refine ⟨(h.1.fr hB fun i hi e => ?_).fr hC fun i hi e => ?_, (h.2.trans' hB fun i hi hlt => ?_).trans' hC fun i hi hlt => ?_⟩
  · have := hq.lt i hi
    have : i = g := e
    omega
  · have := hq.lt i hi
    have : i = r := e
    omega
  · have : i = g := hi
    omega
  · have : i = r := hi
    omega
set_option maxRecDepth 100000 in
set_option maxHeartbeats 2000000 in
theorem bhold_any (q : Pl) (b : Bk) (o : Od) (v : Value) (w : World) (h : BkS w q b) (ho : o.ok) (hr : rightO o = true) (hk : o.kd = 3) :
    Calls Tryz.prog 67 #[.pointer (some ⟨q.p, 0, none⟩), o.val v] w (DidB q (effR b o) (effB b o) w) := by
  have hI := eff_inv h.inv ho hr
  have eB : effB b o = ⟨putSS b.S b.H (numO o) o.an o.sum, putHH b.S b.H (numO o) o.an o.sum, b.cl⟩ := by unfold effB; rw [if_neg (show ¬ o.kd = 1 by omega), if_neg (show ¬ o.kd = 2 by omega), if_pos hk]
  have eR : effR b o = numR (aboutR (putSS b.S b.H (numO o) o.an o.sum) o.an (putE b.S b.H (numO o) o.an o.sum)) (numO o) := by unfold effR; rw [if_neg (show ¬ o.kd = 1 by omega), if_neg (show ¬ o.kd = 2 by omega), if_pos hk]
  rw [eB] at hI
  rw [eB, eR]
  obtain ⟨-, hid, -, -⟩ := right_kd hr
  have hnum := numO_eq hid
  obtain ⟨-, -, -, hac, hpe, hsm, hpr, hhd, -⟩ := ho
  clear eB eR hr hk
  have HNM : Hid (∀ W, Calls Tryz.prog 106 #[.agg #[.int .i64 o.cl, .int .i64 o.sq]] W fun e w' => e = .returned (.int .i64 (numO o)) ∧ Fr No W w') := fun W => by
    rw [hnum]
    exact number_any _ _ ⟨hid.1, hid.2.1⟩ hid.2.2 W
  have hni : In64 (numO o) := by rw [hnum]; unfold In64; omega
  clear hnum hid
  generalize numO o = num at *
  obtain ⟨ocl, osq, okd, oac, ope, osm, olg, opr, ohd, ont⟩ := o
  unfold Od.val Od.cs Od.an at *
  simp only at hac hpe hsm hpr hhd hI HNM ⊢
  have HH := Lib.hid h
  have HI := Lib.hid hI
  have HO : Hid (∀ W, Fr No w W → Calls Tryz.prog 107 #[.pointer (some ⟨q.h, 0, none⟩), .pointer (some ⟨q.c, 0, none⟩), .agg #[.int .i64 num, .string oac, .int .i64 osm]] W fun e w' => e = .returned (.int .i64 (putE b.S b.H num oac.data.toList osm)) ∧ BkS w' q ⟨putSS b.S b.H num oac.data.toList osm, putHH b.S b.H num oac.data.toList osm, b.cl⟩ ∧ Fr (At2 q.m q.k) W w') := fun W hW =>
    (put_any q.c q.m q.h q.k b.S b.H oac num osm W (h.ch.no hW) h.inv.st.kp.inv (h.hd.no hW) (by have := h.inv.st.len; omega) h.ne hac hni hsm).mono fun e w' hx => ⟨hx.ret, (h.no hW).both hx hI, hx.fr⟩
  generalize putE b.S b.H num oac.data.toList osm = E at *
  generalize putSS b.S b.H num oac.data.toList osm = T at *
  generalize putHH b.S b.H num oac.data.toList osm = T2 at *
  obtain ⟨re, rh, rs, rn, hR⟩ : ∃ a b c d, aboutR T oac.data.toList E = ⟨a, b, c, d⟩ := ⟨_, _, _, _, rfl⟩
  have HAB : Hid (∀ W, BkS W q ⟨T, T2, b.cl⟩ → Calls Tryz.prog 102 #[.pointer (some ⟨q.p, 0, none⟩), .string oac, .int .i64 E] W fun e w' => e = .returned (.agg #[.int .i64 re, .int .i64 rh, .int .i64 rs, .int .i64 rn]) ∧ BkS w' q ⟨T, T2, b.cl⟩ ∧ Fr (At2 q.m q.k) W w') := fun W hW => by
    have hx := about_any q ⟨T, T2, b.cl⟩ oac E W hW hac
    rw [hR] at hx
    exact hx.mono fun e w' h => ⟨h.1, h.2.1, h.2.2.mono fun _ _ h => .inl h⟩
  rw [hR]
  have hfar : ∀ g, w.heap.size ≤ g → ¬ At2 q.m q.k g := fun g hg e => Pl.far h hg (by rcases e with e | e; exact .inr (.inl e); exact .inr (.inr e))
  have hbk := h.blk
  have hbo := Blk.new w 35 #[.int .i64 ocl, .int .i64 osq, .int .i64 okd, .string oac, .string ope, .int .i64 osm, v, .int .i64 opr, .int .i64 ohd, .string ont]
  have hbr := Blk.new (w.alloc (.cells #[.int .i64 ocl, .int .i64 osq, .int .i64 okd, .string oac, .string ope, .int .i64 osm, v, .int .i64 opr, .int .i64 ohd, .string ont] 35)) 41 #[.int .i64 0, .int .i64 0, .int .i64 0, .int .i64 0]
  rw [World.size_alloc] at hbr
  have hbo1 := hbo.alloc (.cells #[.int .i64 0, .int .i64 0, .int .i64 0, .int .i64 0] 41)
  have hf1 : Fr No w ((w.alloc (.cells #[.int .i64 ocl, .int .i64 osq, .int .i64 okd, .string oac, .string ope, .int .i64 osm, v, .int .i64 opr, .int .i64 ohd, .string ont] 35)).alloc (.cells #[.int .i64 0, .int .i64 0, .int .i64 0, .int .i64 0] 41)) := ((Fr.refl _ _).alloc _).alloc _
  have hmp := h.mp
  have hlt : q.p < w.heap.size := h.blk.lt
  have o0 := hbo1.cell 0
  have o1 := hbo1.cell 1
  simp only [List.getElem?_toArray, List.getElem?_cons_zero, List.getElem?_cons_succ] at o0 o1
  clear h hI hR hac hsm hpe hpr hhd hbo hni
  go_enter Tryz.func67, Tryz.ntmps67
  go_wp2_with fail
  (with_reducible refine (HNM.out _).mono ?_)
  rintro e w1 ⟨rfl, hg0⟩
  have hf1 := hf1.trans hg0
  have hbo1 := hbo1.fr hg0 (fun h => h)
  have hbr := hbr.fr hg0 (fun h => h)
  clear hg0 HNM o0 o1
  go_upto_region 2 with (fail)
  have hsz : w.heap.size + 1 < w1.heap.size := hbr.lt
  have HF1 := Lib.hid hf1
  have HBR := Lib.hid hbr
  have HX : Hid (∀ W, Fr (At2 q.m q.k) w1 W → Fr (At2 q.m q.k) w1 W ∧ W.cell? ⟨q.p, 0, none⟩ = some (.pointer (some ⟨q.c, 0, none⟩)) ∧ W.cell? ⟨q.p, 1, none⟩ = some (.pointer (some ⟨q.h, 0, none⟩)) ∧ W.cell? ⟨w.heap.size, 3, none⟩ = some (.string oac) ∧ W.cell? ⟨w.heap.size, 5, none⟩ = some (.int .i64 osm)) := fun W hW => by
    have h1 := hbo1.fr hW (hfar _ (Nat.le_refl _))
    have h2 := (hbk.fr hf1 (fun h => h)).fr hW (fun e => by rcases e with e | e; exact hmp.1 e.symm; exact hmp.2 e.symm)
    exact ⟨hW, h2.cell 0, h2.cell 1, h1.cell 3, h1.cell 5⟩
  have HFAR := Lib.hid hfar
  have hw1 : Fr (At2 q.m q.k) w1 w1.drew := (Fr.refl _ w1).drew
  clear hf1 hbr hbo1 hbk hfar hmp hlt
  go_region_held3 (fun W => Fr (At2 q.m q.k) w1 W ∧ W.cell? ⟨q.p, 0, none⟩ = some (.pointer (some ⟨q.c, 0, none⟩)) ∧ W.cell? ⟨q.p, 1, none⟩ = some (.pointer (some ⟨q.h, 0, none⟩)) ∧ W.cell? ⟨w.heap.size, 3, none⟩ = some (.string oac) ∧ W.cell? ⟨w.heap.size, 5, none⟩ = some (.int .i64 osm))
    (first
      | (refine HX.out _ ?_; with_reducible assumption)
      | (refine HX.out _ (Fr.alloc ?_ _); with_reducible assumption)
      | (refine HX.out _ (Fr.drew (Fr.alloc ?_ _)); with_reducible first | assumption | exact Fr.refl _ w1)
      | (refine HX.out _ (keep_set4 (by with_reducible assumption) (by first | with_reducible assumption | omega))))
    (first
      | (go_at_call 107; (with_reducible refine (HO.out _ ((HF1.out.alloc _).drew)).mono ?_); rintro e u1 ⟨rfl, hb1, hg⟩; have ka1 : Fr (At2 q.m q.k) w1 u1 := Fr.trans ((Fr.refl _ w1).alloc _).drew hg; have hz1 := Blk.fr (Blk.new w1 41 #[.int .i64 0, .int .i64 0, .int .i64 0, .int .i64 0]).drew hg (HFAR.out _ (by omega)); clear hg)
      | (go_at_call 107; (with_reducible refine (HO.out _ HF1.out.drew).mono ?_); rintro e u1 ⟨rfl, hb1, hg⟩; have ka1 : Fr (At2 q.m q.k) w1 u1 := Fr.trans (Fr.refl _ w1).drew hg; clear hg)
      | (go_at_call 102; (with_reducible refine (HAB.out _ hb1).mono ?_); rintro e u2 ⟨rfl, hb2, hg⟩; have ka2 : Fr (At2 q.m q.k) w1 u2 := Fr.trans ka1 hg; have hz2 := Blk.fr hz1 hg (HFAR.out _ (by omega)); clear hg; have y0 := hz2.cell 0; have y1 := hz2.cell 1; have y2 := hz2.cell 2; have y3 := hz2.cell 3; have z0 := hz2.frozen 0; have z1 := hz2.frozen 1; have z2 := hz2.frozen 2; have z3 := hz2.frozen 3; simp only [List.getElem?_toArray, List.getElem?_cons_zero, List.getElem?_cons_succ] at y0 y1 y2 y3; have hzl := hz2.lt)
      | (go_at_call 102; (with_reducible refine (HAB.out _ (hb1.no ((Fr.refl _ _).alloc _))).mono ?_); rintro e u2 ⟨rfl, hb2, hg⟩; have ka2 : Fr (At2 q.m q.k) w1 u2 := Fr.trans (ka1.alloc _) hg; have hu1 := ka1.size; have hz2 := Blk.fr (Blk.new u1 41 #[.int .i64 0, .int .i64 0, .int .i64 0, .int .i64 0]) hg (HFAR.out _ (by omega)); clear hg; have y0 := hz2.cell 0; have y1 := hz2.cell 1; have y2 := hz2.cell 2; have y3 := hz2.cell 3; have z0 := hz2.frozen 0; have z1 := hz2.frozen 1; have z2 := hz2.frozen 2; have z3 := hz2.frozen 3; simp only [List.getElem?_toArray, List.getElem?_cons_zero, List.getElem?_cons_succ] at y0 y1 y2 y3; have hzl := hz2.lt)
      | (go_at_call 102; (with_reducible refine (HAB.out _ hb1).mono ?_); rintro e u2 ⟨rfl, hb2, hg⟩; have ka2 : Fr (At2 q.m q.k) w1 u2 := Fr.trans ka1 hg; clear hg))
  · have hx : Blk (u2.alloc (.cells #[.int .i64 re, .int .i64 rh, .int .i64 rs, .int .i64 rn] 41)) u2.heap.size 41 #[.int .i64 re, .int .i64 rh, .int .i64 rs, .int .i64 rn] := Blk.new u2 41 _
    have hr := (HBR.out.fr ka2 (HFAR.out _ (by omega))).alloc (.cells #[.int .i64 re, .int .i64 rh, .int .i64 rs, .int .i64 rn] 41)
    have hgg : w.heap.size + 1 < u2.heap.size := by have := ka2.size; omega
    have HU := Lib.hid (did_of HH.out (g := u2.heap.size) (by omega) HF1.out ka2 hb2 ((Fr.refl _ u2).alloc (.cells #[.int .i64 re, .int .i64 rh, .int .i64 rs, .int .i64 rn] 41)))
    clear HX HFAR HAB HO hw1 HBR HF1
    generalize u2.alloc (.cells #[.int .i64 re, .int .i64 rh, .int .i64 rs, .int .i64 rn] 41) = u3 at *
    clear ka1 ka2 hb1 hb2
    try clear y0 y1 y2 y3 z0 z1 z2 z3 hz2 hzl
    try clear hz1
    try clear hu1
    generalize u2.heap.size = g at *
    by_cases h0 : re = 0
    · subst h0
      have hB := fr_set u3 g 3 (.int .i64 num)
      have hy := hx.set_ 3 (.int .i64 num)
      have hyr := hr.fr hB (fun e => by have : w.heap.size + 1 = g := e; omega)
      have hd := blk_set4 hyr (.int .i64 0) (.int .i64 rh) (.int .i64 rs) (.int .i64 num)
      have hC := fr_set4 (u3.setCell ⟨g, 3, none⟩ (.int .i64 num)) (w.heap.size + 1) (.int .i64 0) (.int .i64 rh) (.int .i64 rs) (.int .i64 num)
      have HD := Lib.hid (did_tail HH.out HU.out hB hC (by omega) (by omega))
      have HDD := Lib.hid hd
      have x0 := hx.cell 0
      have x3 := hx.cell 3
      have g3 := hx.frozen 3
      have y0 := hy.cell 0
      have y1 := hy.cell 1
      have y2 := hy.cell 2
      have y3 := hy.cell 3
      have r0 := hr.cell 0
      have r1 := hr.cell 1
      have r2 := hr.cell 2
      have r3 := hr.cell 3
      have f0 := hr.frozen 0
      have f1 := hr.frozen 1
      have f2 := hr.frozen 2
      have f3 := hr.frozen 3
      have hne : ¬ g = w.heap.size + 1 := by omega
      have hne' : ¬ w.heap.size + 1 = g := by omega
      simp only [List.getElem?_toArray, List.getElem?_cons_zero, List.getElem?_cons_succ, List.setIfInBounds_toArray, List.set_cons_succ, List.set_cons_zero] at x0 x3 y0 y1 y2 y3 r0 r1 r2 r3
      clear hx hr hy hyr hd hB hC HU
      go_wp2
      have hd := HDD.out
      have d0 := hd.cell 0
      have d1 := hd.cell 1
      have d2 := hd.cell 2
      have d3 := hd.cell 3
      simp only [List.getElem?_toArray, List.getElem?_cons_zero, List.getElem?_cons_succ] at d0 d1 d2 d3
      refine bodyPost_ret (v := .agg #[.int .i64 0, .int .i64 rh, .int .i64 rs, .int .i64 num]) (by simp [results, Tryz.results67, go_sem, d0, d1, d2, d3]) rfl ?_
      exact ⟨by unfold numR; rw [if_pos rfl]; rfl, HD.out⟩
    · have hz : (re == 0) = false := by simpa using h0
      have hC := fr_set4 u3 (w.heap.size + 1) (.int .i64 re) (.int .i64 rh) (.int .i64 rs) (.int .i64 rn)
      have hd := blk_set4 hr (.int .i64 re) (.int .i64 rh) (.int .i64 rs) (.int .i64 rn)
      have HD := Lib.hid (did_tail HH.out HU.out (Fr.refl (At1 g) u3) hC (by omega) (by omega))
      have HDD := Lib.hid hd
      have H0 := Lib.hid h0
      have x0 := hx.cell 0
      have x1 := hx.cell 1
      have x2 := hx.cell 2
      have x3 := hx.cell 3
      have r0 := hr.cell 0
      have r1 := hr.cell 1
      have r2 := hr.cell 2
      have r3 := hr.cell 3
      have f0 := hr.frozen 0
      have f1 := hr.frozen 1
      have f2 := hr.frozen 2
      have f3 := hr.frozen 3
      have hne : ¬ g = w.heap.size + 1 := by omega
      have hne' : ¬ w.heap.size + 1 = g := by omega
      simp only [List.getElem?_toArray, List.getElem?_cons_zero, List.getElem?_cons_succ] at x0 x1 x2 x3 r0 r1 r2 r3
      clear hx hr hd hC HU h0
      go_wp2
      have hd := HDD.out
      have d0 := hd.cell 0
      have d1 := hd.cell 1
      have d2 := hd.cell 2
      have d3 := hd.cell 3
      simp only [List.getElem?_toArray, List.getElem?_cons_zero, List.getElem?_cons_succ] at d0 d1 d2 d3
      refine bodyPost_ret (v := .agg #[.int .i64 re, .int .i64 rh, .int .i64 rs, .int .i64 rn]) (by simp [results, Tryz.results67, go_sem, d0, d1, d2, d3]) rfl ?_
      exact ⟨by unfold numR; rw [if_neg H0.out]; rfl, HD.out⟩
  · have hx : Blk ((((u2.setCell ⟨u1.heap.size, 0, none⟩ (.int .i64 re)).setCell ⟨u1.heap.size, 1, none⟩ (.int .i64 rh)).setCell ⟨u1.heap.size, 2, none⟩ (.int .i64 rs)).setCell ⟨u1.heap.size, 3, none⟩ (.int .i64 rn)) u1.heap.size 41 #[.int .i64 re, .int .i64 rh, .int .i64 rs, .int .i64 rn] := blk_set4 hz2 (.int .i64 re) (.int .i64 rh) (.int .i64 rs) (.int .i64 rn)
    have hr := (HBR.out.fr ka2 (HFAR.out _ (by omega))).fr (fr_set4 u2 (u1.heap.size) (.int .i64 re) (.int .i64 rh) (.int .i64 rs) (.int .i64 rn)) (fun e => by have : w.heap.size + 1 = u1.heap.size := e; omega)
    have hgg : w.heap.size + 1 < u1.heap.size := by omega
    have HU := Lib.hid (did_of HH.out (g := u1.heap.size) (by omega) HF1.out ka2 hb2 (fr_set4 u2 (u1.heap.size) (.int .i64 re) (.int .i64 rh) (.int .i64 rs) (.int .i64 rn)))
    clear HX HFAR HAB HO hw1 HBR HF1
    generalize (((u2.setCell ⟨u1.heap.size, 0, none⟩ (.int .i64 re)).setCell ⟨u1.heap.size, 1, none⟩ (.int .i64 rh)).setCell ⟨u1.heap.size, 2, none⟩ (.int .i64 rs)).setCell ⟨u1.heap.size, 3, none⟩ (.int .i64 rn) = u3 at *
    clear ka1 ka2 hb1 hb2
    try clear y0 y1 y2 y3 z0 z1 z2 z3 hz2 hzl
    try clear hz1
    try clear hu1
    generalize u1.heap.size = g at *
    by_cases h0 : re = 0
    · subst h0
      have hB := fr_set u3 g 3 (.int .i64 num)
      have hy := hx.set_ 3 (.int .i64 num)
      have hyr := hr.fr hB (fun e => by have : w.heap.size + 1 = g := e; omega)
      have hd := blk_set4 hyr (.int .i64 0) (.int .i64 rh) (.int .i64 rs) (.int .i64 num)
      have hC := fr_set4 (u3.setCell ⟨g, 3, none⟩ (.int .i64 num)) (w.heap.size + 1) (.int .i64 0) (.int .i64 rh) (.int .i64 rs) (.int .i64 num)
      have HD := Lib.hid (did_tail HH.out HU.out hB hC (by omega) (by omega))
      have HDD := Lib.hid hd
      have x0 := hx.cell 0
      have x3 := hx.cell 3
      have g3 := hx.frozen 3
      have y0 := hy.cell 0
      have y1 := hy.cell 1
      have y2 := hy.cell 2
      have y3 := hy.cell 3
      have r0 := hr.cell 0
      have r1 := hr.cell 1
      have r2 := hr.cell 2
      have r3 := hr.cell 3
      have f0 := hr.frozen 0
      have f1 := hr.frozen 1
      have f2 := hr.frozen 2
      have f3 := hr.frozen 3
      have hne : ¬ g = w.heap.size + 1 := by omega
      have hne' : ¬ w.heap.size + 1 = g := by omega
      simp only [List.getElem?_toArray, List.getElem?_cons_zero, List.getElem?_cons_succ, List.setIfInBounds_toArray, List.set_cons_succ, List.set_cons_zero] at x0 x3 y0 y1 y2 y3 r0 r1 r2 r3
      clear hx hr hy hyr hd hB hC HU
      go_wp2
      have hd := HDD.out
      have d0 := hd.cell 0
      have d1 := hd.cell 1
      have d2 := hd.cell 2
      have d3 := hd.cell 3
      simp only [List.getElem?_toArray, List.getElem?_cons_zero, List.getElem?_cons_succ] at d0 d1 d2 d3
      refine bodyPost_ret (v := .agg #[.int .i64 0, .int .i64 rh, .int .i64 rs, .int .i64 num]) (by simp [results, Tryz.results67, go_sem, d0, d1, d2, d3]) rfl ?_
      exact ⟨by unfold numR; rw [if_pos rfl]; rfl, HD.out⟩
    · have hz : (re == 0) = false := by simpa using h0
      have hC := fr_set4 u3 (w.heap.size + 1) (.int .i64 re) (.int .i64 rh) (.int .i64 rs) (.int .i64 rn)
      have hd := blk_set4 hr (.int .i64 re) (.int .i64 rh) (.int .i64 rs) (.int .i64 rn)
      have HD := Lib.hid (did_tail HH.out HU.out (Fr.refl (At1 g) u3) hC (by omega) (by omega))
      have HDD := Lib.hid hd
      have H0 := Lib.hid h0
      have x0 := hx.cell 0
      have x1 := hx.cell 1
      have x2 := hx.cell 2
      have x3 := hx.cell 3
      have r0 := hr.cell 0
      have r1 := hr.cell 1
      have r2 := hr.cell 2
      have r3 := hr.cell 3
      have f0 := hr.frozen 0
      have f1 := hr.frozen 1
      have f2 := hr.frozen 2
      have f3 := hr.frozen 3
      have hne : ¬ g = w.heap.size + 1 := by omega
      have hne' : ¬ w.heap.size + 1 = g := by omega
      simp only [List.getElem?_toArray, List.getElem?_cons_zero, List.getElem?_cons_succ] at x0 x1 x2 x3 r0 r1 r2 r3
      clear hx hr hd hC HU h0
      go_wp2
      have hd := HDD.out
      have d0 := hd.cell 0
      have d1 := hd.cell 1
      have d2 := hd.cell 2
      have d3 := hd.cell 3
      simp only [List.getElem?_toArray, List.getElem?_cons_zero, List.getElem?_cons_succ] at d0 d1 d2 d3
      refine bodyPost_ret (v := .agg #[.int .i64 re, .int .i64 rh, .int .i64 rs, .int .i64 rn]) (by simp [results, Tryz.results67, go_sem, d0, d1, d2, d3]) rfl ?_
      exact ⟨by unfold numR; rw [if_neg H0.out]; rfl, HD.out⟩
  · have hx : Blk ((((u2.setCell ⟨w1.heap.size, 0, none⟩ (.int .i64 re)).setCell ⟨w1.heap.size, 1, none⟩ (.int .i64 rh)).setCell ⟨w1.heap.size, 2, none⟩ (.int .i64 rs)).setCell ⟨w1.heap.size, 3, none⟩ (.int .i64 rn)) w1.heap.size 41 #[.int .i64 re, .int .i64 rh, .int .i64 rs, .int .i64 rn] := blk_set4 hz2 (.int .i64 re) (.int .i64 rh) (.int .i64 rs) (.int .i64 rn)
    have hr := (HBR.out.fr ka2 (HFAR.out _ (by omega))).fr (fr_set4 u2 (w1.heap.size) (.int .i64 re) (.int .i64 rh) (.int .i64 rs) (.int .i64 rn)) (fun e => by have : w.heap.size + 1 = w1.heap.size := e; omega)
    have hgg : w.heap.size + 1 < w1.heap.size := hsz
    have HU := Lib.hid (did_of HH.out (g := w1.heap.size) (by omega) HF1.out ka2 hb2 (fr_set4 u2 (w1.heap.size) (.int .i64 re) (.int .i64 rh) (.int .i64 rs) (.int .i64 rn)))
    clear HX HFAR HAB HO hw1 HBR HF1
    generalize (((u2.setCell ⟨w1.heap.size, 0, none⟩ (.int .i64 re)).setCell ⟨w1.heap.size, 1, none⟩ (.int .i64 rh)).setCell ⟨w1.heap.size, 2, none⟩ (.int .i64 rs)).setCell ⟨w1.heap.size, 3, none⟩ (.int .i64 rn) = u3 at *
    clear ka1 ka2 hb1 hb2
    try clear y0 y1 y2 y3 z0 z1 z2 z3 hz2 hzl
    try clear hz1
    try clear hu1
    generalize w1.heap.size = g at *
    by_cases h0 : re = 0
    · subst h0
      have hB := fr_set u3 g 3 (.int .i64 num)
      have hy := hx.set_ 3 (.int .i64 num)
      have hyr := hr.fr hB (fun e => by have : w.heap.size + 1 = g := e; omega)
      have hd := blk_set4 hyr (.int .i64 0) (.int .i64 rh) (.int .i64 rs) (.int .i64 num)
      have hC := fr_set4 (u3.setCell ⟨g, 3, none⟩ (.int .i64 num)) (w.heap.size + 1) (.int .i64 0) (.int .i64 rh) (.int .i64 rs) (.int .i64 num)
      have HD := Lib.hid (did_tail HH.out HU.out hB hC (by omega) (by omega))
      have HDD := Lib.hid hd
      have x0 := hx.cell 0
      have x3 := hx.cell 3
      have g3 := hx.frozen 3
      have y0 := hy.cell 0
      have y1 := hy.cell 1
      have y2 := hy.cell 2
      have y3 := hy.cell 3
      have r0 := hr.cell 0
      have r1 := hr.cell 1
      have r2 := hr.cell 2
      have r3 := hr.cell 3
      have f0 := hr.frozen 0
      have f1 := hr.frozen 1
      have f2 := hr.frozen 2
      have f3 := hr.frozen 3
      have hne : ¬ g = w.heap.size + 1 := by omega
      have hne' : ¬ w.heap.size + 1 = g := by omega
      simp only [List.getElem?_toArray, List.getElem?_cons_zero, List.getElem?_cons_succ, List.setIfInBounds_toArray, List.set_cons_succ, List.set_cons_zero] at x0 x3 y0 y1 y2 y3 r0 r1 r2 r3
      clear hx hr hy hyr hd hB hC HU
      go_wp2
      have hd := HDD.out
      have d0 := hd.cell 0
      have d1 := hd.cell 1
      have d2 := hd.cell 2
      have d3 := hd.cell 3
      simp only [List.getElem?_toArray, List.getElem?_cons_zero, List.getElem?_cons_succ] at d0 d1 d2 d3
      refine bodyPost_ret (v := .agg #[.int .i64 0, .int .i64 rh, .int .i64 rs, .int .i64 num]) (by simp [results, Tryz.results67, go_sem, d0, d1, d2, d3]) rfl ?_
      exact ⟨by unfold numR; rw [if_pos rfl]; rfl, HD.out⟩
    · have hz : (re == 0) = false := by simpa using h0
      have hC := fr_set4 u3 (w.heap.size + 1) (.int .i64 re) (.int .i64 rh) (.int .i64 rs) (.int .i64 rn)
      have hd := blk_set4 hr (.int .i64 re) (.int .i64 rh) (.int .i64 rs) (.int .i64 rn)
      have HD := Lib.hid (did_tail HH.out HU.out (Fr.refl (At1 g) u3) hC (by omega) (by omega))
      have HDD := Lib.hid hd
      have H0 := Lib.hid h0
      have x0 := hx.cell 0
      have x1 := hx.cell 1
      have x2 := hx.cell 2
      have x3 := hx.cell 3
      have r0 := hr.cell 0
      have r1 := hr.cell 1
      have r2 := hr.cell 2
      have r3 := hr.cell 3
      have f0 := hr.frozen 0
      have f1 := hr.frozen 1
      have f2 := hr.frozen 2
      have f3 := hr.frozen 3
      have hne : ¬ g = w.heap.size + 1 := by omega
      have hne' : ¬ w.heap.size + 1 = g := by omega
      simp only [List.getElem?_toArray, List.getElem?_cons_zero, List.getElem?_cons_succ] at x0 x1 x2 x3 r0 r1 r2 r3
      clear hx hr hd hC HU h0
      go_wp2
      have hd := HDD.out
      have d0 := hd.cell 0
      have d1 := hd.cell 1
      have d2 := hd.cell 2
      have d3 := hd.cell 3
      simp only [List.getElem?_toArray, List.getElem?_cons_zero, List.getElem?_cons_succ] at d0 d1 d2 d3
      refine bodyPost_ret (v := .agg #[.int .i64 re, .int .i64 rh, .int .i64 rs, .int .i64 rn]) (by simp [results, Tryz.results67, go_sem, d0, d1, d2, d3]) rfl ?_
      exact ⟨by unfold numR; rw [if_neg H0.out]; rfl, HD.out⟩
end Go.Proofs.YtjbeaoabhhaiiaaGreat

namespace Go.Proofs.YtjbeaoabhhaiiaaGreat
open Go.RowKit Go.My Go.Maps
set_option linter.unusedSimpArgs false
set_option linter.unusedVariables false
attribute [local go_sem ↓] Go.wp_at_zero Go.wp_at_succ

def fnB (f : FuncId) : Value := .func (.func f) #[] #[]
/-- the functions of the kinds -/
def effF (k : Int) : Option Value :=
  if k = 7 then some (fnB 71)
  else if k = 6 then some (fnB 70)
  else if k = 5 then some (fnB 69)
  else if k = 4 then some (fnB 68)
  else if k = 3 then some (fnB 67)
  else if k = 2 then some (fnB 66)
  else if k = 1 then some (fnB 65)
  else none
set_option maxRecDepth 100000 in
set_option maxHeartbeats 1000000 in
theorem effects_any (w : World) : Calls Tryz.prog 45 #[] w fun e w' => ∃ m, e = .returned (.map (some m)) ∧ Tab Tryz.prog 3 w' m 7 effF ∧ Fr No w w' := by
  have HT : Hid (Tab Tryz.prog 3 (w.alloc (.map #[] 0)) w.heap.size 0 (fun _ => none)) := Tab.made w
  have HM : Hid (Fr No w (w.alloc (.map #[] 0))) := (Fr.refl _ _).alloc _
  have hmk := @run_makeMap Tryz.prog
  obtain ⟨u0, hr0, hT0, hf0⟩ := HT.out.put Tryz.underlying3 Tryz.underlying113 (by unfold maxLen; omega) 1 (by unfold In64; omega) (fnB 65)
  obtain ⟨u1, hr1, hT1, hf1⟩ := hT0.put Tryz.underlying3 Tryz.underlying113 (by unfold maxLen; omega) 2 (by unfold In64; omega) (fnB 66)
  obtain ⟨u2, hr2, hT2, hf2⟩ := hT1.put Tryz.underlying3 Tryz.underlying113 (by unfold maxLen; omega) 3 (by unfold In64; omega) (fnB 67)
  obtain ⟨u3, hr3, hT3, hf3⟩ := hT2.put Tryz.underlying3 Tryz.underlying113 (by unfold maxLen; omega) 4 (by unfold In64; omega) (fnB 68)
  obtain ⟨u4, hr4, hT4, hf4⟩ := hT3.put Tryz.underlying3 Tryz.underlying113 (by unfold maxLen; omega) 5 (by unfold In64; omega) (fnB 69)
  obtain ⟨u5, hr5, hT5, hf5⟩ := hT4.put Tryz.underlying3 Tryz.underlying113 (by unfold maxLen; omega) 6 (by unfold In64; omega) (fnB 70)
  obtain ⟨u6, hr6, hT6, hf6⟩ := hT5.put Tryz.underlying3 Tryz.underlying113 (by unfold maxLen; omega) 7 (by unfold In64; omega) (fnB 71)
  have HF : Hid (Fr No w u6) := HM.out.trans' (((((((hf0.trans hf1).trans hf2).trans hf3).trans hf4).trans hf5).trans hf6)) (fun i hi hlt => by have : i = w.heap.size := hi; omega)
  have HT6 := Lib.hid hT6
  simp only [fnB] at hr0 hr1 hr2 hr3 hr4 hr5 hr6
  clear HT HM hT0 hT1 hT2 hT3 hT4 hT5 hT6 hf0 hf1 hf2 hf3 hf4 hf5 hf6
  go_enter Tryz.func45, Tryz.ntmps45
  go_wp2
  go_ret
  exact ⟨_, rfl, HT6.out, HF.out⟩
theorem right_legs {o : Od} (h : rightO o = true) (hk : o.kd = 2) : rightB o.legs = true := by
  unfold rightO at h
  simp only [Bool.and_eq_true, decide_eq_true_eq] at h
  obtain ⟨-, -, -, -, -, -, hl, -⟩ := h
  unfold legsB at hl
  rw [if_pos hk] at hl
  exact hl
/-- what Do does of a kind that is right -/
def DoesK (q : Pl) (b : Bk) (o : Od) (v : Value) (f : FuncId) (w : World) : Prop := ∀ W, Fr No w W → Calls Tryz.prog f #[.pointer (some ⟨q.p, 0, none⟩), o.val v] W (DidB q (effR b o) (effB b o) W)
theorem does_k (F : Nat → Prop) (q : Pl) (b : Bk) (o : Od) (v : Value) (w : World) (h : BkS w q b) (ho : o.ok) (hv : LgS w F v o.legs) (hF : ∀ k, F k → k < w.heap.size ∧ k ≠ q.m) (hr : rightO o = true) :
    ∃ f, effF o.kd = some (fnB f) ∧ DoesK q b o v f w ∧ (f = 71 ∨ f = 70 ∨ f = 69 ∨ f = 68 ∨ f = 67 ∨ f = 66 ∨ f = 65) := by
  obtain ⟨⟨k1, k7⟩, -⟩ := right_kd hr
  have hk : o.kd = 1 ∨ o.kd = 2 ∨ o.kd = 3 ∨ o.kd = 4 ∨ o.kd = 5 ∨ o.kd = 6 ∨ o.kd = 7 := by omega
  rcases hk with hk | hk | hk | hk | hk | hk | hk
  · exact ⟨_, by rw [hk]; rfl, fun W hW => bopen_any q b o v W (h.no hW) ho hr hk, by simp⟩
  · refine ⟨_, by rw [hk]; rfl, fun W hW => ?_, by simp⟩
    by_cases hc : o.per ≤ b.cl
    · exact bpost_closed q b o v W (h.no hW) hk hc
    · refine bpost_any q b o v W (h.no hW) ho hr hk F (hv.no hW) (fun k hk => ⟨Nat.lt_of_lt_of_le (hF k hk).1 hW.size, (hF k hk).2⟩) ?_ hc
      have := rightB_six (right_legs hr hk)
      omega
  · exact ⟨_, by rw [hk]; rfl, fun W hW => bhold_any q b o v W (h.no hW) ho hr hk, by simp⟩
  · refine ⟨_, by rw [hk]; rfl, fun W hW => ?_, by simp⟩
    by_cases hc : o.per ≤ b.cl
    · exact bcapture_closed q b o v W (h.no hW) hk hc
    · exact bcapture_any q b o v W (h.no hW) ho hr hk hc
  · exact ⟨_, by rw [hk]; rfl, fun W hW => brelease_any q b o v W (h.no hW) ho hr hk, by simp⟩
  · refine ⟨_, by rw [hk]; rfl, fun W hW => ?_, by simp⟩
    by_cases hc : o.per ≤ b.cl
    · exact bclose_closed q b o v W (h.no hW) hk hc
    · exact bclose_any q b o v W (h.no hW) ho hr hk hc
  · exact ⟨_, by rw [hk]; rfl, fun W hW => bask_any q b o v W (h.no hW) ho hk, by simp⟩
theorem kb_ask (args : Array Value) (W : World) : (callFunc 71 args).run Tryz.prog W = .ok (.enter 71 args) W := by kernel_rfl
theorem kb_close (args : Array Value) (W : World) : (callFunc 70 args).run Tryz.prog W = .ok (.enter 70 args) W := by kernel_rfl
theorem kb_release (args : Array Value) (W : World) : (callFunc 69 args).run Tryz.prog W = .ok (.enter 69 args) W := by kernel_rfl
theorem kb_capture (args : Array Value) (W : World) : (callFunc 68 args).run Tryz.prog W = .ok (.enter 68 args) W := by kernel_rfl
theorem kb_hold (args : Array Value) (W : World) : (callFunc 67 args).run Tryz.prog W = .ok (.enter 67 args) W := by kernel_rfl
theorem kb_post (args : Array Value) (W : World) : (callFunc 66 args).run Tryz.prog W = .ok (.enter 66 args) W := by kernel_rfl
theorem kb_open (args : Array Value) (W : World) : (callFunc 65 args).run Tryz.prog W = .ok (.enter 65 args) W := by kernel_rfl
theorem k_of {f : FuncId} (h : f = 71 ∨ f = 70 ∨ f = 69 ∨ f = 68 ∨ f = 67 ∨ f = 66 ∨ f = 65) (args : Array Value) (W : World) : (callFunc f args).run Tryz.prog W = .ok (.enter f args) W := by
  rcases h with rfl | rfl | rfl | rfl | rfl | rfl | rfl
  · exact kb_ask args W
  · exact kb_close args W
  · exact kb_release args W
  · exact kb_capture args W
  · exact kb_hold args W
  · exact kb_post args W
  · exact kb_open args W
theorem doR_ret (b : Bk) (o : Od) (h : rightO o = false) : doR b o = errR 1 ∧ doB b o = b := by
  unfold doR doB
  rw [h]
  exact ⟨rfl, rfl⟩
theorem doR_eff (b : Bk) (o : Od) (h : rightO o = true) : doR b o = effR b o ∧ doB b o = effB b o := by
  unfold doR doB
  rw [h]
  exact ⟨rfl, rfl⟩
/-- what is written of a book, and one block besides -/
def Pl.wrr (q : Pl) (g : Nat) : Nat → Prop := fun i => q.wr i ∨ i = g
theorem zeroF (w : World) : (zeroValue 112).run Tryz.prog w = .ok (.nilFunc) w := by kernel_rfl
set_option maxRecDepth 100000 in
set_option maxHeartbeats 2000000 in
theorem do_any (F : Nat → Prop) (q : Pl) (b : Bk) (o : Od) (v : Value) (w : World) (h : BkS w q b) (ho : o.ok) (hv : LgS w F v o.legs) (hF : ∀ k, F k → k < w.heap.size ∧ k ≠ q.m) :
    Calls Tryz.prog 25 #[.pointer (some ⟨q.p, 0, none⟩), o.val v] w (DidB q (doR b o) (doB b o) w) := by
  have HRT : Hid (∀ W, Fr No w W → Calls Tryz.prog 44 #[o.val v] W fun e w' => e = .returned (.bool (rightO o)) ∧ Fr No W w') := fun W hW => rightO_any F o v W ho (hv.no hW)
  have HH := Lib.hid h
  have hkd := ho.2.2.1
  cases hr : rightO o with
  | false =>
    obtain ⟨e1, e2⟩ := doR_ret b o hr
    rw [e1, e2]
    rw [hr] at HRT
    clear e1 e2 hr h ho hv hF hkd
    obtain ⟨ocl, osq, okd, oac, ope, osm, olg, opr, ohd, ont⟩ := o
    unfold Od.val Od.cs at *
    simp only at HRT ⊢
    have hbo := Blk.new w 35 #[.int .i64 ocl, .int .i64 osq, .int .i64 okd, .string oac, .string ope, .int .i64 osm, v, .int .i64 opr, .int .i64 ohd, .string ont]
    have hbr := Blk.new (w.alloc (.cells #[.int .i64 ocl, .int .i64 osq, .int .i64 okd, .string oac, .string ope, .int .i64 osm, v, .int .i64 opr, .int .i64 ohd, .string ont] 35)) 41 #[.int .i64 0, .int .i64 0, .int .i64 0, .int .i64 0]
    rw [World.size_alloc] at hbr
    have hbo1 := hbo.alloc (.cells #[.int .i64 0, .int .i64 0, .int .i64 0, .int .i64 0] 41)
    have hf1 : Fr No w ((w.alloc (.cells #[.int .i64 ocl, .int .i64 osq, .int .i64 okd, .string oac, .string ope, .int .i64 osm, v, .int .i64 opr, .int .i64 ohd, .string ont] 35)).alloc (.cells #[.int .i64 0, .int .i64 0, .int .i64 0, .int .i64 0] 41)) := ((Fr.refl _ _).alloc _).alloc _
    have o0 := hbo1.cell 0
    have o1 := hbo1.cell 1
    have o2 := hbo1.cell 2
    have o3 := hbo1.cell 3
    have o4 := hbo1.cell 4
    have o5 := hbo1.cell 5
    have o6 := hbo1.cell 6
    have o7 := hbo1.cell 7
    have o8 := hbo1.cell 8
    have o9 := hbo1.cell 9
    simp only [List.getElem?_toArray, List.getElem?_cons_zero, List.getElem?_cons_succ] at o0 o1 o2 o3 o4 o5 o6 o7 o8 o9
    clear hbo hbo1
    go_enter Tryz.func25, Tryz.ntmps25
    go_wp2_with fail
    (with_reducible refine (HRT.out _ hf1).mono ?_)
    rintro e u2 ⟨rfl, hg⟩
    have hr2 := hbr.fr hg (fun h => h)
    have hd := blk_set4 hr2 (.int .i64 1) (.int .i64 0) (.int .i64 0) (.int .i64 0)
    have HF2 : Hid (Fr No w u2) := hf1.trans hg
    have HC := fr_set4 u2 (w.heap.size + 1) (.int .i64 1) (.int .i64 0) (.int .i64 0) (.int .i64 0)
    have HD := Lib.hid (did_tail HH.out ⟨HH.out.no HF2.out, HF2.out.mono fun _ _ h => False.elim h⟩ (Fr.refl (At1 (w.heap.size + 1)) u2) HC (Nat.le_succ _) (Nat.le_succ _))
    have HDD := Lib.hid hd
    have r0 := hr2.cell 0
    have r1 := hr2.cell 1
    have r2 := hr2.cell 2
    have r3 := hr2.cell 3
    have f0 := hr2.frozen 0
    have f1 := hr2.frozen 1
    have f2 := hr2.frozen 2
    have f3 := hr2.frozen 3
    simp only [List.getElem?_toArray, List.getElem?_cons_zero, List.getElem?_cons_succ] at r0 r1 r2 r3
    clear o0 o1 o2 o3 o4 o5 o6 o7 o8 o9 hbr hf1 hg hr2 hd HC HRT
    go_wp2
    have hd := HDD.out
    have d0 := hd.cell 0
    have d1 := hd.cell 1
    have d2 := hd.cell 2
    have d3 := hd.cell 3
    simp only [List.getElem?_toArray, List.getElem?_cons_zero, List.getElem?_cons_succ] at d0 d1 d2 d3
    refine bodyPost_ret (v := .agg #[.int .i64 1, .int .i64 0, .int .i64 0, .int .i64 0]) (by simp [results, Tryz.results25, go_sem, d0, d1, d2, d3]) rfl ?_
    exact ⟨rfl, HD.out⟩
  | true =>
    obtain ⟨e1, e2⟩ := doR_eff b o hr
    rw [e1, e2]
    obtain ⟨f, hef, hdk, hfs⟩ := does_k F q b o v w h ho hv hF hr
    have HDK := Lib.hid hdk
    have hcf := k_of hfs
    have HLK : Hid (∀ m W, Tab Tryz.prog 3 W m 7 effF → (Instr.lookup 113 (.map (some m)) (.int .i64 o.kd) false).run Tryz.prog W = .ok (.func (.func f) #[] #[]) W) := fun m W h => by
      have h1 := h.look Tryz.underlying3 Tryz.underlying113 (zeroF W) o.kd hkd
      rw [hef] at h1
      exact h1
    rw [hr] at HRT
    obtain ⟨re, rh, rs, rn, hR⟩ : ∃ x y z t, effR b o = ⟨x, y, z, t⟩ := ⟨_, _, _, _, rfl⟩
    unfold DoesK at HDK
    rw [hR] at HDK
    rw [hR]
    generalize effB b o = b' at *
    clear e1 e2 hr h ho hv hF hkd hef hdk hfs hR
    obtain ⟨ocl, osq, okd, oac, ope, osm, olg, opr, ohd, ont⟩ := o
    unfold Od.val Od.cs at *
    simp only at HRT HDK HLK ⊢
    have HDX : Hid (∀ W, Fr No w W → Calls Tryz.prog f #[.pointer (some ⟨q.p, 0, none⟩), .agg #[.int .i64 ocl, .int .i64 osq, .int .i64 okd, .string oac, .string ope, .int .i64 osm, v, .int .i64 opr, .int .i64 ohd, .string ont]] W fun e w' => e = .returned (.agg #[.int .i64 re, .int .i64 rh, .int .i64 rs, .int .i64 rn]) ∧ BkS w' q b' ∧ Fr q.wr W w') := fun W hW => HDK.out W hW
    clear HDK
    have hbo := Blk.new w 35 #[.int .i64 ocl, .int .i64 osq, .int .i64 okd, .string oac, .string ope, .int .i64 osm, v, .int .i64 opr, .int .i64 ohd, .string ont]
    have hbr := Blk.new (w.alloc (.cells #[.int .i64 ocl, .int .i64 osq, .int .i64 okd, .string oac, .string ope, .int .i64 osm, v, .int .i64 opr, .int .i64 ohd, .string ont] 35)) 41 #[.int .i64 0, .int .i64 0, .int .i64 0, .int .i64 0]
    rw [World.size_alloc] at hbr
    have hbo1 := hbo.alloc (.cells #[.int .i64 0, .int .i64 0, .int .i64 0, .int .i64 0] 41)
    have hf1 : Fr No w ((w.alloc (.cells #[.int .i64 ocl, .int .i64 osq, .int .i64 okd, .string oac, .string ope, .int .i64 osm, v, .int .i64 opr, .int .i64 ohd, .string ont] 35)).alloc (.cells #[.int .i64 0, .int .i64 0, .int .i64 0, .int .i64 0] 41)) := ((Fr.refl _ _).alloc _).alloc _
    have HX0 : Hid (∀ W, Fr No ((w.alloc (.cells #[.int .i64 ocl, .int .i64 osq, .int .i64 okd, .string oac, .string ope, .int .i64 osm, v, .int .i64 opr, .int .i64 ohd, .string ont] 35)).alloc (.cells #[.int .i64 0, .int .i64 0, .int .i64 0, .int .i64 0] 41)) W → W.cell? ⟨w.heap.size, 0, none⟩ = some (.int .i64 ocl) ∧ W.cell? ⟨w.heap.size, 1, none⟩ = some (.int .i64 osq) ∧ W.cell? ⟨w.heap.size, 2, none⟩ = some (.int .i64 okd) ∧ W.cell? ⟨w.heap.size, 3, none⟩ = some (.string oac) ∧ W.cell? ⟨w.heap.size, 4, none⟩ = some (.string ope) ∧ W.cell? ⟨w.heap.size, 5, none⟩ = some (.int .i64 osm) ∧ W.cell? ⟨w.heap.size, 6, none⟩ = some (v) ∧ W.cell? ⟨w.heap.size, 7, none⟩ = some (.int .i64 opr) ∧ W.cell? ⟨w.heap.size, 8, none⟩ = some (.int .i64 ohd) ∧ W.cell? ⟨w.heap.size, 9, none⟩ = some (.string ont)) := fun W hW => by
      have h1 := hbo1.fr hW (fun h => h)
      exact ⟨h1.cell 0, h1.cell 1, h1.cell 2, h1.cell 3, h1.cell 4, h1.cell 5, h1.cell 6, h1.cell 7, h1.cell 8, h1.cell 9⟩
    obtain ⟨o0, o1, o2, o3, o4, o5, o6, o7, o8, o9⟩ := HX0.out _ (Fr.refl _ _)
    clear hbo
    go_enter Tryz.func25, Tryz.ntmps25
    go_wp2_with fail
    (with_reducible refine (HRT.out _ hf1).mono ?_)
    rintro e w2 ⟨rfl, hg⟩
    have hr2 := hbr.fr hg (fun h => h)
    have hbo2 := hbo1.fr hg (fun h => h)
    have hf2 := hf1.trans hg
    clear o0 o1 o2 o3 o4 o5 o6 o7 o8 o9 HX0 hbo1 hbr hf1 hg HRT
    go_upto_region 3 with (fail)
    have HF2 := Lib.hid hf2
    have HR2 := Lib.hid hr2
    have HX : Hid (∀ W, Fr (q.wrr (w.heap.size + 1)) w2 W → Fr (q.wrr (w.heap.size + 1)) w2 W ∧ W.cell? ⟨w.heap.size, 0, none⟩ = some (.int .i64 ocl) ∧ W.cell? ⟨w.heap.size, 1, none⟩ = some (.int .i64 osq) ∧ W.cell? ⟨w.heap.size, 2, none⟩ = some (.int .i64 okd) ∧ W.cell? ⟨w.heap.size, 3, none⟩ = some (.string oac) ∧ W.cell? ⟨w.heap.size, 4, none⟩ = some (.string ope) ∧ W.cell? ⟨w.heap.size, 5, none⟩ = some (.int .i64 osm) ∧ W.cell? ⟨w.heap.size, 6, none⟩ = some (v) ∧ W.cell? ⟨w.heap.size, 7, none⟩ = some (.int .i64 opr) ∧ W.cell? ⟨w.heap.size, 8, none⟩ = some (.int .i64 ohd) ∧ W.cell? ⟨w.heap.size, 9, none⟩ = some (.string ont)) := fun W hW => by
      have h1 := hbo2.fr hW (fun e => by rcases e with e | e; exact Pl.far HH.out (Nat.le_refl _) e; omega)
      exact ⟨hW, h1.cell 0, h1.cell 1, h1.cell 2, h1.cell 3, h1.cell 4, h1.cell 5, h1.cell 6, h1.cell 7, h1.cell 8, h1.cell 9⟩
    have HFAR : Hid (¬ q.wr (w.heap.size + 1)) := Pl.far HH.out (Nat.le_succ _)
    have hw2 : Fr (q.wrr (w.heap.size + 1)) w2 w2.drew := (Fr.refl _ w2).drew
    clear hbo2 hf2 hr2
    have HEF := Lib.hid (fun W => effects_any W)
    go_region_held3 (fun W => Fr (q.wrr (w.heap.size + 1)) w2 W ∧ W.cell? ⟨w.heap.size, 0, none⟩ = some (.int .i64 ocl) ∧ W.cell? ⟨w.heap.size, 1, none⟩ = some (.int .i64 osq) ∧ W.cell? ⟨w.heap.size, 2, none⟩ = some (.int .i64 okd) ∧ W.cell? ⟨w.heap.size, 3, none⟩ = some (.string oac) ∧ W.cell? ⟨w.heap.size, 4, none⟩ = some (.string ope) ∧ W.cell? ⟨w.heap.size, 5, none⟩ = some (.int .i64 osm) ∧ W.cell? ⟨w.heap.size, 6, none⟩ = some (v) ∧ W.cell? ⟨w.heap.size, 7, none⟩ = some (.int .i64 opr) ∧ W.cell? ⟨w.heap.size, 8, none⟩ = some (.int .i64 ohd) ∧ W.cell? ⟨w.heap.size, 9, none⟩ = some (.string ont))
      (first
        | (refine HX.out _ ?_; with_reducible assumption)
        | (refine HX.out _ (Fr.trans ?_ ((fr_set4 _ _ _ _ _ _).mono fun _ _ h => .inr h)); with_reducible assumption))
      (first
        | (go_at_call 45; (with_reducible refine (HEF.out _).mono ?_); rintro e u1 ⟨m, rfl, hT, hg⟩; have hlk := HLK.out m _ hT; have ka1 : Fr No w2 u1 := Fr.trans (Fr.refl _ w2).drew hg; have kb1 : Fr (q.wrr (w.heap.size + 1)) w2 u1 := ka1.mono (fun _ _ h => False.elim h); clear hg hT)
        | ((with_reducible refine (HDX.out _ (HF2.out.trans ka1)).mono ?_); rintro e u2 ⟨rfl, hb2, hg⟩; have ka2 : Fr q.wr w2 u2 := Fr.trans (ka1.mono (fun _ _ h => False.elim h)) hg; have kb2 : Fr (q.wrr (w.heap.size + 1)) w2 u2 := ka2.mono (fun _ _ h => .inl h); clear hg; have hz2 := HR2.out.fr ka2 HFAR.out; have c0 := hz2.cell 0; have c1 := hz2.cell 1; have c2 := hz2.cell 2; have c3 := hz2.cell 3; have f0 := hz2.frozen 0; have f1 := hz2.frozen 1; have f2 := hz2.frozen 2; have f3 := hz2.frozen 3; simp only [List.getElem?_toArray, List.getElem?_cons_zero, List.getElem?_cons_succ] at c0 c1 c2 c3))
    all_goals
      have hd := blk_set4 hz2 (.int .i64 re) (.int .i64 rh) (.int .i64 rs) (.int .i64 rn)
      have HD := Lib.hid (did_tail HH.out ⟨hb2, (HF2.out.mono (T := q.wr) fun _ _ h => False.elim h).trans ka2⟩ (Fr.refl (At1 (w.heap.size + 1)) u2) (fr_set4 u2 (w.heap.size + 1) (.int .i64 re) (.int .i64 rh) (.int .i64 rs) (.int .i64 rn)) (Nat.le_succ _) (Nat.le_succ _))
      clear c0 c1 c2 c3 f0 f1 f2 f3 hz2 HX hcf hlk
      generalize (((u2.setCell ⟨w.heap.size + 1, 0, none⟩ (.int .i64 re)).setCell ⟨w.heap.size + 1, 1, none⟩ (.int .i64 rh)).setCell ⟨w.heap.size + 1, 2, none⟩ (.int .i64 rs)).setCell ⟨w.heap.size + 1, 3, none⟩ (.int .i64 rn) = u3 at *
      have d0 := hd.cell 0
      have d1 := hd.cell 1
      have d2 := hd.cell 2
      have d3 := hd.cell 3
      simp only [List.getElem?_toArray, List.getElem?_cons_zero, List.getElem?_cons_succ] at d0 d1 d2 d3
      go_wp2
      refine bodyPost_ret (v := .agg #[.int .i64 re, .int .i64 rh, .int .i64 rs, .int .i64 rn]) (by simp [results, Tryz.results25, go_sem, d0, d1, d2, d3]) rfl ?_
      exact ⟨rfl, HD.out⟩
end Go.Proofs.YtjbeaoabhhaiiaaGreat

namespace Go.Proofs.YtjbeaoabhhaiiaaGreat
open Go.RowKit Go.My Go.Maps
set_option linter.unusedSimpArgs false
set_option linter.unusedVariables false
attribute [local go_sem ↓] Go.wp_at_zero Go.wp_at_succ

theorem neq_hd (a b : Hd) (W : World) (h : a ≠ b) : (binOp .neq 103 (.agg #[.int .i64 a.num, .string ⟨a.acct.toArray⟩, .int .i64 a.sum]) (.agg #[.int .i64 b.num, .string ⟨b.acct.toArray⟩, .int .i64 b.sum])).run Tryz.prog W = .ok (.bool true) W := by
  have key : a.num = b.num → a.acct = b.acct → ¬ a.sum = b.sum := fun h1 h2 h3 => h (by cases a; cases b; simp_all)
  simp [go_sem]
  exact key
def EqARel (S T : List Ac) (w : World) (i : Value) (wr : World) : Prop :=
  ∃ k j : Nat, k ≤ S.length ∧ i = .int .i64 k ∧ S.take k = T.take k ∧ wr = w.drewN j
def EqHRel (S T : List Hd) (w : World) (i : Value) (wr : World) : Prop :=
  ∃ k j : Nat, k ≤ S.length ∧ i = .int .i64 k ∧ S.take k = T.take k ∧ wr = w.drewN j
set_option maxRecDepth 100000 in
set_option maxHeartbeats 1000000 in
theorem equalA_any (F G : Nat → Prop) (A B : Option Addr) (c d : Nat) (S T : List Ac) (w : World) (hl : Rd w F 4 A S.length (acs S)) (hr : Rd w G 4 B T.length (acs T)) (hsz : S.length ≤ 1000000000) :
    Calls Tryz.prog 38 #[.slice A S.length c, .slice B T.length d] w fun e w' => e = .returned (.bool (decide (S = T))) ∧ ∃ n, w' = w.drewN n := by
  by_cases hlen : S.length = T.length
  · have hz : ((S.length : Int) != (T.length : Int)) = false := by rw [bne_eq_false_iff_eq]; omega
    have HL := Lib.hid hlen
    have HA := Lib.hid hl
    have HB := Lib.hid hr
    clear hlen hl hr
    go_enter Tryz.func38, Tryz.ntmps38
    go_wp2
    go_loopw [13] (fun a wr => EqARel S T w a wr) (fun a _ => S.length - (intOf a).toNat)
    case atStart => exact ⟨0, 0, Nat.zero_le _, rfl, rfl, rfl⟩
    case round =>
      obtain ⟨k, j, hk, rfl, heq, rfl⟩ := hrel
      have HE := Lib.hid heq
      clear heq
      by_cases hlt : k < S.length
      · have hlt2 : k < T.length := by have := HL.out; omega
        obtain ⟨ad, rfl, _, p0, p1, p2, p3⟩ := acs_at HA.out k hlt
        obtain ⟨bd, rfl, _, q0, q1, q2, q3⟩ := acs_at HB.out k hlt2
        have e1 : S.take (k + 1) = S.take k ++ [S[k]] := List.take_succ_eq_append_getElem hlt
        have e2 : T.take (k + 1) = T.take k ++ [T[k]] := List.take_succ_eq_append_getElem hlt2
        by_cases hxy : S[k] = T[k]
        · have E : Hid (S.take (k + 1) = T.take (k + 1)) := by show _ = _; rw [e1, e2, HE.out, hxy]
          rw [← hxy] at q0 q1 q2 q3
          clear e1 e2 hxy
          generalize S[k].name.toArray = n1 at *
          generalize S[k].hv = v1 at *
          generalize S[k].st = v2 at *
          generalize S[k].lim = v3 at *
          go_wp2
          go_quiet (fail)
          go_wp2
          go_roundw
          case rel => exact ⟨k + 1, _, by omega, by go_num, E.out, rfl⟩
          case measure => simp [intOf]; omega
        · have E : Hid (S ≠ T) := by
            intro h
            subst h
            exact hxy rfl
          have hne := fun W => neq_ac S[k] T[k] W hxy
          clear e1 e2 hxy
          generalize S[k].name.toArray = n1 at *
          generalize S[k].hv = v1 at *
          generalize S[k].st = v2 at *
          generalize S[k].lim = v3 at *
          generalize T[k].name.toArray = m1 at *
          generalize T[k].hv = u1 at *
          generalize T[k].st = u2 at *
          generalize T[k].lim = u3 at *
          go_wp2
          go_quiet (fail)
          go_wp2
          go_ret
          exact ⟨by rw [decide_eq_false E.out]; rfl, _, World.drewN_drewN _ _ _⟩
      · have : k = S.length := by omega
        subst this
        go_wp2
        go_ret
        have h1 := HE.out
        rw [List.take_length, HL.out, List.take_length] at h1
        exact ⟨by rw [decide_eq_true h1]; rfl, _, rfl⟩
  · have hz : ((S.length : Int) != (T.length : Int)) = true := by rw [bne_iff_ne]; omega
    have HL := Lib.hid hlen
    clear hlen hl hr
    go_enter Tryz.func38, Tryz.ntmps38
    go_wp2
    go_ret
    exact ⟨by rw [decide_eq_false (fun h => HL.out (by rw [h]))]; rfl, 0, rfl⟩

set_option maxRecDepth 100000 in
set_option maxHeartbeats 1000000 in
theorem equalH_any (F G : Nat → Prop) (A B : Option Addr) (c d : Nat) (S T : List Hd) (w : World) (hl : Rd w F 3 A S.length (hds S)) (hr : Rd w G 3 B T.length (hds T)) (hsz : S.length ≤ 1000000000) :
    Calls Tryz.prog 39 #[.slice A S.length c, .slice B T.length d] w fun e w' => e = .returned (.bool (decide (S = T))) ∧ ∃ n, w' = w.drewN n := by
  by_cases hlen : S.length = T.length
  · have hz : ((S.length : Int) != (T.length : Int)) = false := by rw [bne_eq_false_iff_eq]; omega
    have HL := Lib.hid hlen
    have HA := Lib.hid hl
    have HB := Lib.hid hr
    clear hlen hl hr
    go_enter Tryz.func39, Tryz.ntmps39
    go_wp2
    go_loopw [13] (fun a wr => EqHRel S T w a wr) (fun a _ => S.length - (intOf a).toNat)
    case atStart => exact ⟨0, 0, Nat.zero_le _, rfl, rfl, rfl⟩
    case round =>
      obtain ⟨k, j, hk, rfl, heq, rfl⟩ := hrel
      have HE := Lib.hid heq
      clear heq
      by_cases hlt : k < S.length
      · have hlt2 : k < T.length := by have := HL.out; omega
        obtain ⟨ad, rfl, _, p0, p1, p2⟩ := hd_at HA.out k hlt
        obtain ⟨bd, rfl, _, q0, q1, q2⟩ := hd_at HB.out k hlt2
        have e1 : S.take (k + 1) = S.take k ++ [S[k]] := List.take_succ_eq_append_getElem hlt
        have e2 : T.take (k + 1) = T.take k ++ [T[k]] := List.take_succ_eq_append_getElem hlt2
        by_cases hxy : S[k] = T[k]
        · have E : Hid (S.take (k + 1) = T.take (k + 1)) := by show _ = _; rw [e1, e2, HE.out, hxy]
          rw [← hxy] at q0 q1 q2
          clear e1 e2 hxy
          generalize S[k].acct.toArray = n1 at *
          generalize S[k].num = v1 at *
          generalize S[k].sum = v2 at *
          go_wp2
          go_quiet (fail)
          go_wp2
          go_roundw
          case rel => exact ⟨k + 1, _, by omega, by go_num, E.out, rfl⟩
          case measure => simp [intOf]; omega
        · have E : Hid (S ≠ T) := by
            intro h
            subst h
            exact hxy rfl
          have hne := fun W => neq_hd S[k] T[k] W hxy
          clear e1 e2 hxy
          generalize S[k].acct.toArray = n1 at *
          generalize S[k].num = v1 at *
          generalize S[k].sum = v2 at *
          generalize T[k].acct.toArray = m1 at *
          generalize T[k].num = u1 at *
          generalize T[k].sum = u2 at *
          go_wp2
          go_quiet (fail)
          go_wp2
          go_ret
          exact ⟨by rw [decide_eq_false E.out]; rfl, _, World.drewN_drewN _ _ _⟩
      · have : k = S.length := by omega
        subst this
        go_wp2
        go_ret
        have h1 := HE.out
        rw [List.take_length, HL.out, List.take_length] at h1
        exact ⟨by rw [decide_eq_true h1]; rfl, _, rfl⟩
  · have hz : ((S.length : Int) != (T.length : Int)) = true := by rw [bne_iff_ne]; omega
    have HL := Lib.hid hlen
    clear hlen hl hr
    go_enter Tryz.func39, Tryz.ntmps39
    go_wp2
    go_ret
    exact ⟨by rw [decide_eq_false (fun h => HL.out (by rw [h]))]; rfl, 0, rfl⟩

set_option maxRecDepth 100000 in
theorem baccts_any (q : Pl) (b : Bk) (w : World) (h : BkS w q b) : Calls Tryz.prog 27 #[.pointer (some ⟨q.p, 0, none⟩)] w (RetOwn w 80 4 none b.S.length (acs b.S)) := by
  have HA := Lib.hid (all_any q.c q.m b.S w h.ch h.inv.st.kp.inv.nm h.inv.st.kp.inv.len)
  have x : w.cell? ⟨q.p, 0, none⟩ = some (.pointer (some ⟨q.c, 0, none⟩)) := h.blk.cell 0
  clear h
  go_enter Tryz.func27, Tryz.ntmps27
  go_wp2_with fail
  (with_reducible refine HA.out.mono ?_)
  rintro e w1 ⟨v, rfl, hr⟩
  have HR := Lib.hid hr
  clear hr x
  go_wp2
  go_ret
  exact ⟨v, rfl, HR.out⟩
theorem baccts_nil (w : World) : Calls Tryz.prog 27 #[.pointer none] w fun e w' => e = .returned (.slice none 0 0) ∧ w' = w := by
  go_enter Tryz.func27, Tryz.ntmps27
  go_wp2
  go_ret
  exact ⟨rfl, rfl⟩
set_option maxRecDepth 100000 in
theorem bholds_any (q : Pl) (b : Bk) (w : World) (h : BkS w q b) : Calls Tryz.prog 40 #[.pointer (some ⟨q.p, 0, none⟩)] w (RetOwn w 103 3 none b.H.length (hds b.H)) := by
  have HA := Lib.hid (allH_any q.h q.k b.H w h.hd (by have := h.inv.st.len; omega))
  have x : w.cell? ⟨q.p, 1, none⟩ = some (.pointer (some ⟨q.h, 0, none⟩)) := h.blk.cell 1
  clear h
  go_enter Tryz.func40, Tryz.ntmps40
  go_wp2_with fail
  (with_reducible refine HA.out.mono ?_)
  rintro e w1 ⟨v, rfl, hr⟩
  have HR := Lib.hid hr
  clear hr x
  go_wp2
  go_ret
  exact ⟨v, rfl, HR.out⟩
theorem bholds_nil (w : World) : Calls Tryz.prog 40 #[.pointer none] w fun e w' => e = .returned (.slice none 0 0) ∧ w' = w := by
  go_enter Tryz.func40, Tryz.ntmps40
  go_wp2
  go_ret
  exact ⟨rfl, rfl⟩
theorem bcopy_nil (w : World) : Calls Tryz.prog 41 #[.pointer none] w fun e w' => e = .returned (.pointer none) ∧ w' = w := by
  go_enter Tryz.func41, Tryz.ntmps41
  go_wp2
  go_ret
  exact ⟨rfl, rfl⟩
/-- a new book -/
def NewB (w : World) (b : Bk) (e : Ending) (w' : World) : Prop := ∃ q : Pl, e = .returned (.pointer (some ⟨q.p, 0, none⟩)) ∧ BkS w' q b ∧ Fr No w w' ∧ ∀ i, q.all i → w.heap.size ≤ i
theorem NewB.of {w w' : World} {b : Bk} {c m h k : Nat} (hc : ChS w' c m b.S) (hh : HdS w' h k b.H) (hne : k ≠ m) (hi : BkI b) (hf : Fr No w w') (h1 : w.heap.size ≤ c) (h2 : w.heap.size ≤ m) (h3 : w.heap.size ≤ h) (h4 : w.heap.size ≤ k) :
    NewB w b (.returned (.pointer (some ⟨w'.heap.size, 0, none⟩))) (w'.alloc (.cells #[.pointer (some ⟨c, 0, none⟩), .pointer (some ⟨h, 0, none⟩), .int .i64 b.cl] 108)) := by
  refine ⟨⟨w'.heap.size, c, m, h, k⟩, rfl, ⟨Blk.new w' _ _, hc.no ((Fr.refl _ _).alloc _), hh.no ((Fr.refl _ _).alloc _), hne, hi⟩, hf.alloc _, ?_⟩
  intro i hi
  have := hf.size
  rcases hi with e | e | e | e | e <;> simp only at e <;> omega
set_option maxRecDepth 100000 in
set_option maxHeartbeats 2000000 in
theorem bcopy_any (q : Pl) (b : Bk) (w : World) (h : BkS w q b) : Calls Tryz.prog 41 #[.pointer (some ⟨q.p, 0, none⟩)] w (NewB w b) := by
  have HH := Lib.hid h
  have HX : Hid (∀ W, Fr No w W → Fr No w W ∧ W.cell? ⟨q.p, 0, none⟩ = some (.pointer (some ⟨q.c, 0, none⟩)) ∧ W.cell? ⟨q.p, 1, none⟩ = some (.pointer (some ⟨q.h, 0, none⟩)) ∧ W.cell? ⟨q.p, 2, none⟩ = some (.int .i64 b.cl)) := fun W hW => by
    have h1 := h.blk.fr hW (fun h => h)
    exact ⟨hW, h1.cell 0, h1.cell 1, h1.cell 2⟩
  have hw : Fr No w w.drew := (Fr.refl _ w).drew
  clear h
  go_enter Tryz.func41, Tryz.ntmps41
  go_upto_region 3 with (fail)
  go_region_held3 (fun W => Fr No w W ∧ W.cell? ⟨q.p, 0, none⟩ = some (.pointer (some ⟨q.c, 0, none⟩)) ∧ W.cell? ⟨q.p, 1, none⟩ = some (.pointer (some ⟨q.h, 0, none⟩)) ∧ W.cell? ⟨q.p, 2, none⟩ = some (.int .i64 b.cl))
    (first
      | (refine HX.out _ ?_; with_reducible assumption)
      | (refine HX.out _ (Fr.alloc ?_ _); with_reducible assumption))
    (first
      | (go_at_call 61; (with_reducible refine (copy_any q.c q.m b.S _ (HH.out.ch.no hw)).mono ?_); rintro e u1 ⟨c, m, rfl, hc1, hg, hc, hm⟩; have ka1 : Fr No w u1 := Fr.trans hw hg; have hml := hc1.2.lt; clear hg)
      | (go_at_call 62; (with_reducible refine (copyH_any q.h q.k b.H _ (HH.out.hd.no ka1)).mono ?_); rintro e u2 ⟨h, k, rfl, hh2, hg, hh, hk⟩; have ka2 : Fr No w u2 := Fr.trans ka1 hg; have hc2 := hc1.no hg; clear hg))
  all_goals
    have hs1 := ka1.size
    have HN := Lib.hid (NewB.of hc2 hh2 (by omega) HH.out.inv ka2 hc hm (by omega) (by omega))
    go_wp2
    go_ret
    exact HN.out
/-- the same accounts, holds, last closed period -/
def sameBk (a b : Bk) : Bool := decide (a.S = b.S ∧ a.H = b.H ∧ a.cl = b.cl)
set_option maxRecDepth 100000 in
set_option maxHeartbeats 4000000 in
theorem bsameA (p q : Pl) (a b : Bk) (w : World) (ha : BkS w p a) (hb : BkS w q b) (hd : ¬ a.S = b.S) : Calls Tryz.prog 22 #[.pointer (some ⟨p.p, 0, none⟩), .pointer (some ⟨q.p, 0, none⟩)] w fun e w' => e = .returned (.bool (false)) ∧ Fr No w w' := by
  have HA := Lib.hid ha
  have HB := Lib.hid hb
  have HD := Lib.hid hd
  have HX : Hid (∀ W, Fr No w W → Fr No w W ∧ W.cell? ⟨p.p, 2, none⟩ = some (.int .i64 a.cl) ∧ W.cell? ⟨q.p, 2, none⟩ = some (.int .i64 b.cl)) := fun W hW => ⟨hW, (ha.blk.fr hW (fun h => h)).cell 2, (hb.blk.fr hW (fun h => h)).cell 2⟩
  have hw : Fr No w w.drew := (Fr.refl _ w).drew
  clear ha hb hd
  go_enter Tryz.func22, Tryz.ntmps22
  go_upto_region 3 with (fail)
  refine wp_region_held_drew (S := fun W => Fr No w W ∧ W.cell? ⟨p.p, 2, none⟩ = some (.int .i64 a.cl) ∧ W.cell? ⟨q.p, 2, none⟩ = some (.int .i64 b.cl)) (by kernel_rfl) ?_ (fun hH0 => ?_)
  · exact HX.out _ hw
  refine wpAnyH_take (i := 0) (v := ?_) rfl (by kernel_rfl) (by kernel_rfl) (by kernel_rfl) (fun _ _ _ h => h) (Or.inl ⟨by rfl, ?_⟩) hH0 ?_
  rotate_left
  · (intro w hSw; (try dsimp only at hSw); go_simp; try with_reducible rfl)
  (try simp only [Act.put, List.getElem_toArray, List.getElem_cons_zero, List.getElem_cons_succ, List.setIfInBounds_toArray, List.set_cons_zero, List.set_cons_succ])
  refine wpAnyH_take (i := 2) (v := ?_) rfl (by kernel_rfl) (by kernel_rfl) (by kernel_rfl) (fun _ _ _ h => h) (Or.inl ⟨by rfl, ?_⟩) hH0 ?_
  rotate_left
  · (intro w hSw; (try dsimp only at hSw); go_simp; try with_reducible rfl)
  (try simp only [Act.put, List.getElem_toArray, List.getElem_cons_zero, List.getElem_cons_succ, List.setIfInBounds_toArray, List.set_cons_zero, List.set_cons_succ])
  refine wpAnyH_ready (rs := [1]) (by kernel_rfl) (by simp) ?_
  refine AllReadyH.cons rfl (fun K hK => ?_) ?_
  · go_simp
    (with_reducible refine (baccts_any p a _ (HA.out.no hw)).mono ?_)
    rintro e u1 ⟨v1, rfl, ho1, hg, -⟩
    obtain ⟨A1, c1, rfl, hl1, hm1⟩ := ho1.form
    have ka1 : Fr No w u1 := Fr.trans hw (fr_at_none hg)
    have HO1 := Lib.hid ho1.rd
    clear hg ho1
    refine hK.out _ _ ?_ (fun hH1 => ?_)
    · exact HX.out _ ka1
    clear hK K
    (try simp only [Act.put, List.getElem_toArray, List.getElem_cons_zero, List.getElem_cons_succ, List.setIfInBounds_toArray, List.set_cons_zero, List.set_cons_succ])
    refine wpAnyH_ready (rs := [3]) (by kernel_rfl) (by simp) ?_
    refine AllReadyH.cons rfl (fun K hK => ?_) ?_
    · go_simp
      (with_reducible refine (baccts_any q b _ (HB.out.no ka1)).mono ?_)
      rintro e u2 ⟨v2, rfl, ho2, hg, -⟩
      obtain ⟨A2, c2, rfl, hl2, hm2⟩ := ho2.form
      have ka2 : Fr No w u2 := Fr.trans ka1 (fr_at_none hg)
      have HO12 := Lib.hid (HO1.out.fr (by omega) (fr_at_none hg) (fun _ _ _ h => h))
      have HO2 := Lib.hid ho2.rd
      clear hg ho2
      refine hK.out _ _ ?_ (fun hH2 => ?_)
      · exact HX.out _ ka2
      clear hK K
      (try simp only [Act.put, List.getElem_toArray, List.getElem_cons_zero, List.getElem_cons_succ, List.setIfInBounds_toArray, List.set_cons_zero, List.set_cons_succ])
      refine wpAnyH_ready (rs := [4]) (by kernel_rfl) (by simp) ?_
      refine AllReadyH.cons rfl (fun K hK => ?_) ?_
      · go_simp
        have q1 := equalA_any _ _ A1 A2 c1 c2 a.S b.S u2 HO12.out HO2.out (by have := HA.out.inv.st.kp.inv.len; omega)
        rw [decide_eq_false HD.out] at q1
        (with_reducible refine q1.mono ?_)
        rintro e u3 ⟨rfl, nq, rfl⟩
        have ka3 : Fr No w (u2.drewN nq) := ka2.drewN nq
        clear q1
        refine hK.out _ _ ?_ (fun hH3 => ?_)
        · exact HX.out _ ka3
        clear hK K
        (try simp only [Act.put, List.getElem_toArray, List.getElem_cons_zero, List.getElem_cons_succ, List.setIfInBounds_toArray, List.set_cons_zero, List.set_cons_succ])
        refine wpAnyH_take (i := 5) (v := ?_) rfl (by kernel_rfl) (by kernel_rfl) (by kernel_rfl) (fun _ _ _ h => h) (Or.inl ⟨by rfl, ?_⟩) hH3 ?_
        rotate_left
        · (intro w hSw; (try dsimp only at hSw); go_simp; try with_reducible rfl)
        (try simp only [Act.put, List.getElem_toArray, List.getElem_cons_zero, List.getElem_cons_succ, List.setIfInBounds_toArray, List.set_cons_zero, List.set_cons_succ])
        refine wpAnyH_take (i := 6) (v := undef) rfl (by kernel_rfl) (by kernel_rfl) (by kernel_rfl) (fun _ _ _ h => h) (Or.inr ⟨by rfl, rfl⟩) hH3 ?_
        (try simp only [Act.put, List.getElem_toArray, List.getElem_cons_zero, List.getElem_cons_succ, List.setIfInBounds_toArray, List.set_cons_zero, List.set_cons_succ])
        refine wpAnyH_take (i := 7) (v := undef) rfl (by kernel_rfl) (by kernel_rfl) (by kernel_rfl) (fun _ _ _ h => h) (Or.inr ⟨by rfl, rfl⟩) hH3 ?_
        (try simp only [Act.put, List.getElem_toArray, List.getElem_cons_zero, List.getElem_cons_succ, List.setIfInBounds_toArray, List.set_cons_zero, List.set_cons_succ])
        refine wpAnyH_take (i := 8) (v := undef) rfl (by kernel_rfl) (by kernel_rfl) (by kernel_rfl) (fun _ _ _ h => h) (Or.inr ⟨by rfl, rfl⟩) hH3 ?_
        (try simp only [Act.put, List.getElem_toArray, List.getElem_cons_zero, List.getElem_cons_succ, List.setIfInBounds_toArray, List.set_cons_zero, List.set_cons_succ])
        refine wpAnyH_take (i := 9) (v := undef) rfl (by kernel_rfl) (by kernel_rfl) (by kernel_rfl) (fun _ _ _ h => h) (Or.inr ⟨by rfl, rfl⟩) hH3 ?_
        (try simp only [Act.put, List.getElem_toArray, List.getElem_cons_zero, List.getElem_cons_succ, List.setIfInBounds_toArray, List.set_cons_zero, List.set_cons_succ])
        refine wpAnyH_take (i := 10) (v := undef) rfl (by kernel_rfl) (by kernel_rfl) (by kernel_rfl) (fun _ _ _ h => h) (Or.inr ⟨by rfl, rfl⟩) hH3 ?_
        (try simp only [Act.put, List.getElem_toArray, List.getElem_cons_zero, List.getElem_cons_succ, List.setIfInBounds_toArray, List.set_cons_zero, List.set_cons_succ])
        refine wpAnyH_take (i := 11) (v := ?_) rfl (by kernel_rfl) (by kernel_rfl) (by kernel_rfl) (fun _ _ _ h => h) (Or.inl ⟨by rfl, ?_⟩) hH3 ?_
        rotate_left
        · (intro w hSw; (try dsimp only at hSw); go_simp; try with_reducible rfl)
        (try simp only [Act.put, List.getElem_toArray, List.getElem_cons_zero, List.getElem_cons_succ, List.setIfInBounds_toArray, List.set_cons_zero, List.set_cons_succ])
        refine wpAnyH_take (i := 12) (v := ?_) rfl (by kernel_rfl) (by kernel_rfl) (by kernel_rfl) (fun _ _ _ h => h) (Or.inl ⟨by rfl, ?_⟩) hH3 ?_
        rotate_left
        · (intro w hSw; (try dsimp only at hSw); go_simp; try with_reducible rfl)
        (try simp only [Act.put, List.getElem_toArray, List.getElem_cons_zero, List.getElem_cons_succ, List.setIfInBounds_toArray, List.set_cons_zero, List.set_cons_succ])
        refine wpAnyH_take (i := 13) (v := undef) rfl (by kernel_rfl) (by kernel_rfl) (by kernel_rfl) (fun _ _ _ h => h) (Or.inr ⟨by rfl, rfl⟩) hH3 ?_
        (try simp only [Act.put, List.getElem_toArray, List.getElem_cons_zero, List.getElem_cons_succ, List.setIfInBounds_toArray, List.set_cons_zero, List.set_cons_succ])
        refine wpAnyH_take (i := 14) (v := undef) rfl (by kernel_rfl) (by kernel_rfl) (by kernel_rfl) (fun _ _ _ h => h) (Or.inr ⟨by rfl, rfl⟩) hH3 ?_
        (try simp only [Act.put, List.getElem_toArray, List.getElem_cons_zero, List.getElem_cons_succ, List.setIfInBounds_toArray, List.set_cons_zero, List.set_cons_succ])
        refine wpAnyH_take (i := 15) (v := undef) rfl (by kernel_rfl) (by kernel_rfl) (by kernel_rfl) (fun _ _ _ h => h) (Or.inr ⟨by rfl, rfl⟩) hH3 ?_
        (try simp only [Act.put, List.getElem_toArray, List.getElem_cons_zero, List.getElem_cons_succ, List.setIfInBounds_toArray, List.set_cons_zero, List.set_cons_succ])
        refine wpAnyH_take (i := 16) (v := undef) rfl (by kernel_rfl) (by kernel_rfl) (by kernel_rfl) (fun _ _ _ h => h) (Or.inr ⟨by rfl, rfl⟩) hH3 ?_
        (try simp only [Act.put, List.getElem_toArray, List.getElem_cons_zero, List.getElem_cons_succ, List.setIfInBounds_toArray, List.set_cons_zero, List.set_cons_succ])
        refine wpAnyH_take (i := 17) (v := undef) rfl (by kernel_rfl) (by kernel_rfl) (by kernel_rfl) (fun _ _ _ h => h) (Or.inr ⟨by rfl, rfl⟩) hH3 ?_
        (try simp only [Act.put, List.getElem_toArray, List.getElem_cons_zero, List.getElem_cons_succ, List.setIfInBounds_toArray, List.set_cons_zero, List.set_cons_succ])
        refine wpAnyH_take (i := 18) (v := undef) rfl (by kernel_rfl) (by kernel_rfl) (by kernel_rfl) (fun _ _ _ h => h) (Or.inr ⟨by rfl, rfl⟩) hH3 ?_
        (try simp only [Act.put, List.getElem_toArray, List.getElem_cons_zero, List.getElem_cons_succ, List.setIfInBounds_toArray, List.set_cons_zero, List.set_cons_succ])
        refine wpAnyH_take (i := 19) (v := undef) rfl (by kernel_rfl) (by kernel_rfl) (by kernel_rfl) (fun _ _ _ h => h) (Or.inr ⟨by rfl, rfl⟩) hH3 ?_
        (try simp only [Act.put, List.getElem_toArray, List.getElem_cons_zero, List.getElem_cons_succ, List.setIfInBounds_toArray, List.set_cons_zero, List.set_cons_succ])
        refine wpAnyH_take (i := 20) (v := undef) rfl (by kernel_rfl) (by kernel_rfl) (by kernel_rfl) (fun _ _ _ h => h) (Or.inr ⟨by rfl, rfl⟩) hH3 ?_
        (try simp only [Act.put, List.getElem_toArray, List.getElem_cons_zero, List.getElem_cons_succ, List.setIfInBounds_toArray, List.set_cons_zero, List.set_cons_succ])
        refine wpAnyH_take (i := 21) (v := undef) rfl (by kernel_rfl) (by kernel_rfl) (by kernel_rfl) (fun _ _ _ h => h) (Or.inr ⟨by rfl, rfl⟩) hH3 ?_
        (try simp only [Act.put, List.getElem_toArray, List.getElem_cons_zero, List.getElem_cons_succ, List.setIfInBounds_toArray, List.set_cons_zero, List.set_cons_succ])
        refine wpAnyH_take (i := 22) (v := ?_) rfl (by kernel_rfl) (by kernel_rfl) (by kernel_rfl) (fun _ _ _ h => h) (Or.inl ⟨by rfl, ?_⟩) hH3 ?_
        rotate_left
        · (intro w hSw; (try dsimp only at hSw); go_simp; try with_reducible rfl)
        (try simp only [Act.put, List.getElem_toArray, List.getElem_cons_zero, List.getElem_cons_succ, List.setIfInBounds_toArray, List.set_cons_zero, List.set_cons_succ])
        refine wpAnyH_take (i := 23) (v := ?_) rfl (by kernel_rfl) (by kernel_rfl) (by kernel_rfl) (fun _ _ _ h => h) (Or.inl ⟨by rfl, ?_⟩) hH3 ?_
        rotate_left
        · (intro w hSw; (try dsimp only at hSw); go_simp; try with_reducible rfl)
        (try simp only [Act.put, List.getElem_toArray, List.getElem_cons_zero, List.getElem_cons_succ, List.setIfInBounds_toArray, List.set_cons_zero, List.set_cons_succ])
        refine wpAnyH_done (by kernel_rfl) ?_ _
        go_wp2
        go_ret
        exact ⟨rfl, ka3⟩
      exact AllReadyH.nil
    exact AllReadyH.nil
  exact AllReadyH.nil
set_option maxRecDepth 100000 in
set_option maxHeartbeats 4000000 in
theorem bsameH (p q : Pl) (a b : Bk) (w : World) (ha : BkS w p a) (hb : BkS w q b) (hd : a.S = b.S) (hdh : ¬ a.H = b.H) : Calls Tryz.prog 22 #[.pointer (some ⟨p.p, 0, none⟩), .pointer (some ⟨q.p, 0, none⟩)] w fun e w' => e = .returned (.bool (false)) ∧ Fr No w w' := by
  have HA := Lib.hid ha
  have HB := Lib.hid hb
  have HD := Lib.hid hd
  have HDH := Lib.hid hdh
  have HX : Hid (∀ W, Fr No w W → Fr No w W ∧ W.cell? ⟨p.p, 2, none⟩ = some (.int .i64 a.cl) ∧ W.cell? ⟨q.p, 2, none⟩ = some (.int .i64 b.cl)) := fun W hW => ⟨hW, (ha.blk.fr hW (fun h => h)).cell 2, (hb.blk.fr hW (fun h => h)).cell 2⟩
  have hw : Fr No w w.drew := (Fr.refl _ w).drew
  clear ha hb hd hdh
  go_enter Tryz.func22, Tryz.ntmps22
  go_upto_region 3 with (fail)
  refine wp_region_held_drew (S := fun W => Fr No w W ∧ W.cell? ⟨p.p, 2, none⟩ = some (.int .i64 a.cl) ∧ W.cell? ⟨q.p, 2, none⟩ = some (.int .i64 b.cl)) (by kernel_rfl) ?_ (fun hH0 => ?_)
  · exact HX.out _ hw
  refine wpAnyH_take (i := 0) (v := ?_) rfl (by kernel_rfl) (by kernel_rfl) (by kernel_rfl) (fun _ _ _ h => h) (Or.inl ⟨by rfl, ?_⟩) hH0 ?_
  rotate_left
  · (intro w hSw; (try dsimp only at hSw); go_simp; try with_reducible rfl)
  (try simp only [Act.put, List.getElem_toArray, List.getElem_cons_zero, List.getElem_cons_succ, List.setIfInBounds_toArray, List.set_cons_zero, List.set_cons_succ])
  refine wpAnyH_take (i := 2) (v := ?_) rfl (by kernel_rfl) (by kernel_rfl) (by kernel_rfl) (fun _ _ _ h => h) (Or.inl ⟨by rfl, ?_⟩) hH0 ?_
  rotate_left
  · (intro w hSw; (try dsimp only at hSw); go_simp; try with_reducible rfl)
  (try simp only [Act.put, List.getElem_toArray, List.getElem_cons_zero, List.getElem_cons_succ, List.setIfInBounds_toArray, List.set_cons_zero, List.set_cons_succ])
  refine wpAnyH_ready (rs := [1]) (by kernel_rfl) (by simp) ?_
  refine AllReadyH.cons rfl (fun K hK => ?_) ?_
  · go_simp
    (with_reducible refine (baccts_any p a _ (HA.out.no hw)).mono ?_)
    rintro e u1 ⟨v1, rfl, ho1, hg, -⟩
    obtain ⟨A1, c1, rfl, hl1, hm1⟩ := ho1.form
    have ka1 : Fr No w u1 := Fr.trans hw (fr_at_none hg)
    have HO1 := Lib.hid ho1.rd
    clear hg ho1
    refine hK.out _ _ ?_ (fun hH1 => ?_)
    · exact HX.out _ ka1
    clear hK K
    (try simp only [Act.put, List.getElem_toArray, List.getElem_cons_zero, List.getElem_cons_succ, List.setIfInBounds_toArray, List.set_cons_zero, List.set_cons_succ])
    refine wpAnyH_ready (rs := [3]) (by kernel_rfl) (by simp) ?_
    refine AllReadyH.cons rfl (fun K hK => ?_) ?_
    · go_simp
      (with_reducible refine (baccts_any q b _ (HB.out.no ka1)).mono ?_)
      rintro e u2 ⟨v2, rfl, ho2, hg, -⟩
      obtain ⟨A2, c2, rfl, hl2, hm2⟩ := ho2.form
      have ka2 : Fr No w u2 := Fr.trans ka1 (fr_at_none hg)
      have HO12 := Lib.hid (HO1.out.fr (by omega) (fr_at_none hg) (fun _ _ _ h => h))
      have HO2 := Lib.hid ho2.rd
      clear hg ho2
      refine hK.out _ _ ?_ (fun hH2 => ?_)
      · exact HX.out _ ka2
      clear hK K
      (try simp only [Act.put, List.getElem_toArray, List.getElem_cons_zero, List.getElem_cons_succ, List.setIfInBounds_toArray, List.set_cons_zero, List.set_cons_succ])
      refine wpAnyH_ready (rs := [4]) (by kernel_rfl) (by simp) ?_
      refine AllReadyH.cons rfl (fun K hK => ?_) ?_
      · go_simp
        have q1 := equalA_any _ _ A1 A2 c1 c2 a.S b.S u2 HO12.out HO2.out (by have := HA.out.inv.st.kp.inv.len; omega)
        rw [decide_eq_true HD.out] at q1
        (with_reducible refine q1.mono ?_)
        rintro e u3 ⟨rfl, nq, rfl⟩
        have ka3 : Fr No w (u2.drewN nq) := ka2.drewN nq
        clear q1
        refine hK.out _ _ ?_ (fun hH3 => ?_)
        · exact HX.out _ ka3
        clear hK K
        (try simp only [Act.put, List.getElem_toArray, List.getElem_cons_zero, List.getElem_cons_succ, List.setIfInBounds_toArray, List.set_cons_zero, List.set_cons_succ])
        refine wpAnyH_take (i := 5) (v := ?_) rfl (by kernel_rfl) (by kernel_rfl) (by kernel_rfl) (fun _ _ _ h => h) (Or.inl ⟨by rfl, ?_⟩) hH3 ?_
        rotate_left
        · (intro w hSw; (try dsimp only at hSw); go_simp; try with_reducible rfl)
        (try simp only [Act.put, List.getElem_toArray, List.getElem_cons_zero, List.getElem_cons_succ, List.setIfInBounds_toArray, List.set_cons_zero, List.set_cons_succ])
        refine wpAnyH_take (i := 6) (v := ?_) rfl (by kernel_rfl) (by kernel_rfl) (by kernel_rfl) (fun _ _ _ h => h) (Or.inl ⟨by rfl, ?_⟩) hH3 ?_
        rotate_left
        · (intro w hSw; (try dsimp only at hSw); go_simp; try with_reducible rfl)
        (try simp only [Act.put, List.getElem_toArray, List.getElem_cons_zero, List.getElem_cons_succ, List.setIfInBounds_toArray, List.set_cons_zero, List.set_cons_succ])
        refine wpAnyH_take (i := 8) (v := ?_) rfl (by kernel_rfl) (by kernel_rfl) (by kernel_rfl) (fun _ _ _ h => h) (Or.inl ⟨by rfl, ?_⟩) hH3 ?_
        rotate_left
        · (intro w hSw; (try dsimp only at hSw); go_simp; try with_reducible rfl)
        (try simp only [Act.put, List.getElem_toArray, List.getElem_cons_zero, List.getElem_cons_succ, List.setIfInBounds_toArray, List.set_cons_zero, List.set_cons_succ])
        refine wpAnyH_ready (rs := [7]) (by kernel_rfl) (by simp) ?_
        refine AllReadyH.cons rfl (fun K hK => ?_) ?_
        · go_simp
          (with_reducible refine (bholds_any p a _ (HA.out.no ka3)).mono ?_)
          rintro e u4 ⟨v4, rfl, ho4, hg, -⟩
          obtain ⟨A4, c4, rfl, hl4, hm4⟩ := ho4.form
          have ka4 : Fr No w u4 := Fr.trans ka3 (fr_at_none hg)
          have HO4 := Lib.hid ho4.rd
          clear hg ho4
          refine hK.out _ _ ?_ (fun hH4 => ?_)
          · exact HX.out _ ka4
          clear hK K
          (try simp only [Act.put, List.getElem_toArray, List.getElem_cons_zero, List.getElem_cons_succ, List.setIfInBounds_toArray, List.set_cons_zero, List.set_cons_succ])
          refine wpAnyH_ready (rs := [9]) (by kernel_rfl) (by simp) ?_
          refine AllReadyH.cons rfl (fun K hK => ?_) ?_
          · go_simp
            (with_reducible refine (bholds_any q b _ (HB.out.no ka4)).mono ?_)
            rintro e u5 ⟨v5, rfl, ho5, hg, -⟩
            obtain ⟨A5, c5, rfl, hl5, hm5⟩ := ho5.form
            have ka5 : Fr No w u5 := Fr.trans ka4 (fr_at_none hg)
            have HO45 := Lib.hid (HO4.out.fr (by omega) (fr_at_none hg) (fun _ _ _ h => h))
            have HO5 := Lib.hid ho5.rd
            clear hg ho5
            refine hK.out _ _ ?_ (fun hH5 => ?_)
            · exact HX.out _ ka5
            clear hK K
            (try simp only [Act.put, List.getElem_toArray, List.getElem_cons_zero, List.getElem_cons_succ, List.setIfInBounds_toArray, List.set_cons_zero, List.set_cons_succ])
            refine wpAnyH_ready (rs := [10]) (by kernel_rfl) (by simp) ?_
            refine AllReadyH.cons rfl (fun K hK => ?_) ?_
            · go_simp
              have q1 := equalH_any _ _ A4 A5 c4 c5 a.H b.H u5 HO45.out HO5.out (by have := HA.out.inv.st.len; omega)
              rw [decide_eq_false HDH.out] at q1
              (with_reducible refine q1.mono ?_)
              rintro e u6 ⟨rfl, nr, rfl⟩
              have ka6 : Fr No w (u5.drewN nr) := ka5.drewN nr
              clear q1
              refine hK.out _ _ ?_ (fun hH6 => ?_)
              · exact HX.out _ ka6
              clear hK K
              (try simp only [Act.put, List.getElem_toArray, List.getElem_cons_zero, List.getElem_cons_succ, List.setIfInBounds_toArray, List.set_cons_zero, List.set_cons_succ])
              refine wpAnyH_take (i := 11) (v := ?_) rfl (by kernel_rfl) (by kernel_rfl) (by kernel_rfl) (fun _ _ _ h => h) (Or.inl ⟨by rfl, ?_⟩) hH6 ?_
              rotate_left
              · (intro w hSw; (try dsimp only at hSw); go_simp; try with_reducible rfl)
              (try simp only [Act.put, List.getElem_toArray, List.getElem_cons_zero, List.getElem_cons_succ, List.setIfInBounds_toArray, List.set_cons_zero, List.set_cons_succ])
              refine wpAnyH_take (i := 12) (v := ?_) rfl (by kernel_rfl) (by kernel_rfl) (by kernel_rfl) (fun _ _ _ h => h) (Or.inl ⟨by rfl, ?_⟩) hH6 ?_
              rotate_left
              · (intro w hSw; (try dsimp only at hSw); go_simp; try with_reducible rfl)
              (try simp only [Act.put, List.getElem_toArray, List.getElem_cons_zero, List.getElem_cons_succ, List.setIfInBounds_toArray, List.set_cons_zero, List.set_cons_succ])
              refine wpAnyH_take (i := 13) (v := undef) rfl (by kernel_rfl) (by kernel_rfl) (by kernel_rfl) (fun _ _ _ h => h) (Or.inr ⟨by rfl, rfl⟩) hH6 ?_
              (try simp only [Act.put, List.getElem_toArray, List.getElem_cons_zero, List.getElem_cons_succ, List.setIfInBounds_toArray, List.set_cons_zero, List.set_cons_succ])
              refine wpAnyH_take (i := 14) (v := undef) rfl (by kernel_rfl) (by kernel_rfl) (by kernel_rfl) (fun _ _ _ h => h) (Or.inr ⟨by rfl, rfl⟩) hH6 ?_
              (try simp only [Act.put, List.getElem_toArray, List.getElem_cons_zero, List.getElem_cons_succ, List.setIfInBounds_toArray, List.set_cons_zero, List.set_cons_succ])
              refine wpAnyH_take (i := 15) (v := undef) rfl (by kernel_rfl) (by kernel_rfl) (by kernel_rfl) (fun _ _ _ h => h) (Or.inr ⟨by rfl, rfl⟩) hH6 ?_
              (try simp only [Act.put, List.getElem_toArray, List.getElem_cons_zero, List.getElem_cons_succ, List.setIfInBounds_toArray, List.set_cons_zero, List.set_cons_succ])
              refine wpAnyH_take (i := 16) (v := undef) rfl (by kernel_rfl) (by kernel_rfl) (by kernel_rfl) (fun _ _ _ h => h) (Or.inr ⟨by rfl, rfl⟩) hH6 ?_
              (try simp only [Act.put, List.getElem_toArray, List.getElem_cons_zero, List.getElem_cons_succ, List.setIfInBounds_toArray, List.set_cons_zero, List.set_cons_succ])
              refine wpAnyH_take (i := 17) (v := undef) rfl (by kernel_rfl) (by kernel_rfl) (by kernel_rfl) (fun _ _ _ h => h) (Or.inr ⟨by rfl, rfl⟩) hH6 ?_
              (try simp only [Act.put, List.getElem_toArray, List.getElem_cons_zero, List.getElem_cons_succ, List.setIfInBounds_toArray, List.set_cons_zero, List.set_cons_succ])
              refine wpAnyH_take (i := 18) (v := undef) rfl (by kernel_rfl) (by kernel_rfl) (by kernel_rfl) (fun _ _ _ h => h) (Or.inr ⟨by rfl, rfl⟩) hH6 ?_
              (try simp only [Act.put, List.getElem_toArray, List.getElem_cons_zero, List.getElem_cons_succ, List.setIfInBounds_toArray, List.set_cons_zero, List.set_cons_succ])
              refine wpAnyH_take (i := 19) (v := undef) rfl (by kernel_rfl) (by kernel_rfl) (by kernel_rfl) (fun _ _ _ h => h) (Or.inr ⟨by rfl, rfl⟩) hH6 ?_
              (try simp only [Act.put, List.getElem_toArray, List.getElem_cons_zero, List.getElem_cons_succ, List.setIfInBounds_toArray, List.set_cons_zero, List.set_cons_succ])
              refine wpAnyH_take (i := 20) (v := undef) rfl (by kernel_rfl) (by kernel_rfl) (by kernel_rfl) (fun _ _ _ h => h) (Or.inr ⟨by rfl, rfl⟩) hH6 ?_
              (try simp only [Act.put, List.getElem_toArray, List.getElem_cons_zero, List.getElem_cons_succ, List.setIfInBounds_toArray, List.set_cons_zero, List.set_cons_succ])
              refine wpAnyH_take (i := 21) (v := undef) rfl (by kernel_rfl) (by kernel_rfl) (by kernel_rfl) (fun _ _ _ h => h) (Or.inr ⟨by rfl, rfl⟩) hH6 ?_
              (try simp only [Act.put, List.getElem_toArray, List.getElem_cons_zero, List.getElem_cons_succ, List.setIfInBounds_toArray, List.set_cons_zero, List.set_cons_succ])
              refine wpAnyH_take (i := 22) (v := ?_) rfl (by kernel_rfl) (by kernel_rfl) (by kernel_rfl) (fun _ _ _ h => h) (Or.inl ⟨by rfl, ?_⟩) hH6 ?_
              rotate_left
              · (intro w hSw; (try dsimp only at hSw); go_simp; try with_reducible rfl)
              (try simp only [Act.put, List.getElem_toArray, List.getElem_cons_zero, List.getElem_cons_succ, List.setIfInBounds_toArray, List.set_cons_zero, List.set_cons_succ])
              refine wpAnyH_take (i := 23) (v := ?_) rfl (by kernel_rfl) (by kernel_rfl) (by kernel_rfl) (fun _ _ _ h => h) (Or.inl ⟨by rfl, ?_⟩) hH6 ?_
              rotate_left
              · (intro w hSw; (try dsimp only at hSw); go_simp; try with_reducible rfl)
              (try simp only [Act.put, List.getElem_toArray, List.getElem_cons_zero, List.getElem_cons_succ, List.setIfInBounds_toArray, List.set_cons_zero, List.set_cons_succ])
              refine wpAnyH_done (by kernel_rfl) ?_ _
              go_wp2
              go_ret
              exact ⟨rfl, ka6⟩
            exact AllReadyH.nil
          exact AllReadyH.nil
        exact AllReadyH.nil
      exact AllReadyH.nil
    exact AllReadyH.nil
  exact AllReadyH.nil
set_option maxRecDepth 100000 in
set_option maxHeartbeats 4000000 in
theorem bsameT (p q : Pl) (a b : Bk) (w : World) (ha : BkS w p a) (hb : BkS w q b) (hd : a.S = b.S) (hdh : a.H = b.H) : Calls Tryz.prog 22 #[.pointer (some ⟨p.p, 0, none⟩), .pointer (some ⟨q.p, 0, none⟩)] w fun e w' => e = .returned (.bool (decide (a.cl = b.cl))) ∧ Fr No w w' := by
  have HA := Lib.hid ha
  have HB := Lib.hid hb
  have HD := Lib.hid hd
  have HDH := Lib.hid hdh
  have HX : Hid (∀ W, Fr No w W → Fr No w W ∧ W.cell? ⟨p.p, 2, none⟩ = some (.int .i64 a.cl) ∧ W.cell? ⟨q.p, 2, none⟩ = some (.int .i64 b.cl)) := fun W hW => ⟨hW, (ha.blk.fr hW (fun h => h)).cell 2, (hb.blk.fr hW (fun h => h)).cell 2⟩
  have hw : Fr No w w.drew := (Fr.refl _ w).drew
  clear ha hb hd hdh
  go_enter Tryz.func22, Tryz.ntmps22
  go_upto_region 3 with (fail)
  refine wp_region_held_drew (S := fun W => Fr No w W ∧ W.cell? ⟨p.p, 2, none⟩ = some (.int .i64 a.cl) ∧ W.cell? ⟨q.p, 2, none⟩ = some (.int .i64 b.cl)) (by kernel_rfl) ?_ (fun hH0 => ?_)
  · exact HX.out _ hw
  refine wpAnyH_take (i := 0) (v := ?_) rfl (by kernel_rfl) (by kernel_rfl) (by kernel_rfl) (fun _ _ _ h => h) (Or.inl ⟨by rfl, ?_⟩) hH0 ?_
  rotate_left
  · (intro w hSw; (try dsimp only at hSw); go_simp; try with_reducible rfl)
  (try simp only [Act.put, List.getElem_toArray, List.getElem_cons_zero, List.getElem_cons_succ, List.setIfInBounds_toArray, List.set_cons_zero, List.set_cons_succ])
  refine wpAnyH_take (i := 2) (v := ?_) rfl (by kernel_rfl) (by kernel_rfl) (by kernel_rfl) (fun _ _ _ h => h) (Or.inl ⟨by rfl, ?_⟩) hH0 ?_
  rotate_left
  · (intro w hSw; (try dsimp only at hSw); go_simp; try with_reducible rfl)
  (try simp only [Act.put, List.getElem_toArray, List.getElem_cons_zero, List.getElem_cons_succ, List.setIfInBounds_toArray, List.set_cons_zero, List.set_cons_succ])
  refine wpAnyH_ready (rs := [1]) (by kernel_rfl) (by simp) ?_
  refine AllReadyH.cons rfl (fun K hK => ?_) ?_
  · go_simp
    (with_reducible refine (baccts_any p a _ (HA.out.no hw)).mono ?_)
    rintro e u1 ⟨v1, rfl, ho1, hg, -⟩
    obtain ⟨A1, c1, rfl, hl1, hm1⟩ := ho1.form
    have ka1 : Fr No w u1 := Fr.trans hw (fr_at_none hg)
    have HO1 := Lib.hid ho1.rd
    clear hg ho1
    refine hK.out _ _ ?_ (fun hH1 => ?_)
    · exact HX.out _ ka1
    clear hK K
    (try simp only [Act.put, List.getElem_toArray, List.getElem_cons_zero, List.getElem_cons_succ, List.setIfInBounds_toArray, List.set_cons_zero, List.set_cons_succ])
    refine wpAnyH_ready (rs := [3]) (by kernel_rfl) (by simp) ?_
    refine AllReadyH.cons rfl (fun K hK => ?_) ?_
    · go_simp
      (with_reducible refine (baccts_any q b _ (HB.out.no ka1)).mono ?_)
      rintro e u2 ⟨v2, rfl, ho2, hg, -⟩
      obtain ⟨A2, c2, rfl, hl2, hm2⟩ := ho2.form
      have ka2 : Fr No w u2 := Fr.trans ka1 (fr_at_none hg)
      have HO12 := Lib.hid (HO1.out.fr (by omega) (fr_at_none hg) (fun _ _ _ h => h))
      have HO2 := Lib.hid ho2.rd
      clear hg ho2
      refine hK.out _ _ ?_ (fun hH2 => ?_)
      · exact HX.out _ ka2
      clear hK K
      (try simp only [Act.put, List.getElem_toArray, List.getElem_cons_zero, List.getElem_cons_succ, List.setIfInBounds_toArray, List.set_cons_zero, List.set_cons_succ])
      refine wpAnyH_ready (rs := [4]) (by kernel_rfl) (by simp) ?_
      refine AllReadyH.cons rfl (fun K hK => ?_) ?_
      · go_simp
        have q1 := equalA_any _ _ A1 A2 c1 c2 a.S b.S u2 HO12.out HO2.out (by have := HA.out.inv.st.kp.inv.len; omega)
        rw [decide_eq_true HD.out] at q1
        (with_reducible refine q1.mono ?_)
        rintro e u3 ⟨rfl, nq, rfl⟩
        have ka3 : Fr No w (u2.drewN nq) := ka2.drewN nq
        clear q1
        refine hK.out _ _ ?_ (fun hH3 => ?_)
        · exact HX.out _ ka3
        clear hK K
        (try simp only [Act.put, List.getElem_toArray, List.getElem_cons_zero, List.getElem_cons_succ, List.setIfInBounds_toArray, List.set_cons_zero, List.set_cons_succ])
        refine wpAnyH_take (i := 5) (v := ?_) rfl (by kernel_rfl) (by kernel_rfl) (by kernel_rfl) (fun _ _ _ h => h) (Or.inl ⟨by rfl, ?_⟩) hH3 ?_
        rotate_left
        · (intro w hSw; (try dsimp only at hSw); go_simp; try with_reducible rfl)
        (try simp only [Act.put, List.getElem_toArray, List.getElem_cons_zero, List.getElem_cons_succ, List.setIfInBounds_toArray, List.set_cons_zero, List.set_cons_succ])
        refine wpAnyH_take (i := 6) (v := ?_) rfl (by kernel_rfl) (by kernel_rfl) (by kernel_rfl) (fun _ _ _ h => h) (Or.inl ⟨by rfl, ?_⟩) hH3 ?_
        rotate_left
        · (intro w hSw; (try dsimp only at hSw); go_simp; try with_reducible rfl)
        (try simp only [Act.put, List.getElem_toArray, List.getElem_cons_zero, List.getElem_cons_succ, List.setIfInBounds_toArray, List.set_cons_zero, List.set_cons_succ])
        refine wpAnyH_take (i := 8) (v := ?_) rfl (by kernel_rfl) (by kernel_rfl) (by kernel_rfl) (fun _ _ _ h => h) (Or.inl ⟨by rfl, ?_⟩) hH3 ?_
        rotate_left
        · (intro w hSw; (try dsimp only at hSw); go_simp; try with_reducible rfl)
        (try simp only [Act.put, List.getElem_toArray, List.getElem_cons_zero, List.getElem_cons_succ, List.setIfInBounds_toArray, List.set_cons_zero, List.set_cons_succ])
        refine wpAnyH_ready (rs := [7]) (by kernel_rfl) (by simp) ?_
        refine AllReadyH.cons rfl (fun K hK => ?_) ?_
        · go_simp
          (with_reducible refine (bholds_any p a _ (HA.out.no ka3)).mono ?_)
          rintro e u4 ⟨v4, rfl, ho4, hg, -⟩
          obtain ⟨A4, c4, rfl, hl4, hm4⟩ := ho4.form
          have ka4 : Fr No w u4 := Fr.trans ka3 (fr_at_none hg)
          have HO4 := Lib.hid ho4.rd
          clear hg ho4
          refine hK.out _ _ ?_ (fun hH4 => ?_)
          · exact HX.out _ ka4
          clear hK K
          (try simp only [Act.put, List.getElem_toArray, List.getElem_cons_zero, List.getElem_cons_succ, List.setIfInBounds_toArray, List.set_cons_zero, List.set_cons_succ])
          refine wpAnyH_ready (rs := [9]) (by kernel_rfl) (by simp) ?_
          refine AllReadyH.cons rfl (fun K hK => ?_) ?_
          · go_simp
            (with_reducible refine (bholds_any q b _ (HB.out.no ka4)).mono ?_)
            rintro e u5 ⟨v5, rfl, ho5, hg, -⟩
            obtain ⟨A5, c5, rfl, hl5, hm5⟩ := ho5.form
            have ka5 : Fr No w u5 := Fr.trans ka4 (fr_at_none hg)
            have HO45 := Lib.hid (HO4.out.fr (by omega) (fr_at_none hg) (fun _ _ _ h => h))
            have HO5 := Lib.hid ho5.rd
            clear hg ho5
            refine hK.out _ _ ?_ (fun hH5 => ?_)
            · exact HX.out _ ka5
            clear hK K
            (try simp only [Act.put, List.getElem_toArray, List.getElem_cons_zero, List.getElem_cons_succ, List.setIfInBounds_toArray, List.set_cons_zero, List.set_cons_succ])
            refine wpAnyH_ready (rs := [10]) (by kernel_rfl) (by simp) ?_
            refine AllReadyH.cons rfl (fun K hK => ?_) ?_
            · go_simp
              have q1 := equalH_any _ _ A4 A5 c4 c5 a.H b.H u5 HO45.out HO5.out (by have := HA.out.inv.st.len; omega)
              rw [decide_eq_true HDH.out] at q1
              (with_reducible refine q1.mono ?_)
              rintro e u6 ⟨rfl, nr, rfl⟩
              have ka6 : Fr No w (u5.drewN nr) := ka5.drewN nr
              clear q1
              refine hK.out _ _ ?_ (fun hH6 => ?_)
              · exact HX.out _ ka6
              clear hK K
              (try simp only [Act.put, List.getElem_toArray, List.getElem_cons_zero, List.getElem_cons_succ, List.setIfInBounds_toArray, List.set_cons_zero, List.set_cons_succ])
              refine wpAnyH_take (i := 11) (v := ?_) rfl (by kernel_rfl) (by kernel_rfl) (by kernel_rfl) (fun _ _ _ h => h) (Or.inl ⟨by rfl, ?_⟩) hH6 ?_
              rotate_left
              · (intro w hSw; (try dsimp only at hSw); go_simp; try with_reducible rfl)
              (try simp only [Act.put, List.getElem_toArray, List.getElem_cons_zero, List.getElem_cons_succ, List.setIfInBounds_toArray, List.set_cons_zero, List.set_cons_succ])
              refine wpAnyH_take (i := 12) (v := ?_) rfl (by kernel_rfl) (by kernel_rfl) (by kernel_rfl) (fun _ _ _ h => h) (Or.inl ⟨by rfl, ?_⟩) hH6 ?_
              rotate_left
              · (intro w hSw; (try dsimp only at hSw); go_simp; try with_reducible rfl)
              (try simp only [Act.put, List.getElem_toArray, List.getElem_cons_zero, List.getElem_cons_succ, List.setIfInBounds_toArray, List.set_cons_zero, List.set_cons_succ])
              refine wpAnyH_take (i := 13) (v := ?_) rfl (by kernel_rfl) (by kernel_rfl) (by kernel_rfl) (fun _ _ _ h => h) (Or.inl ⟨by rfl, ?_⟩) hH6 ?_
              rotate_left
              · (intro w hSw; (try dsimp only at hSw); go_simp; try with_reducible rfl)
              (try simp only [Act.put, List.getElem_toArray, List.getElem_cons_zero, List.getElem_cons_succ, List.setIfInBounds_toArray, List.set_cons_zero, List.set_cons_succ])
              refine wpAnyH_take (i := 14) (v := ?_) rfl (by kernel_rfl) (by kernel_rfl) (by kernel_rfl) (fun _ _ _ h => h) (Or.inl ⟨by rfl, ?_⟩) hH6 ?_
              rotate_left
              · (intro w hSw; (try dsimp only at hSw); go_simp; try with_reducible rfl)
              (try simp only [Act.put, List.getElem_toArray, List.getElem_cons_zero, List.getElem_cons_succ, List.setIfInBounds_toArray, List.set_cons_zero, List.set_cons_succ])
              refine wpAnyH_take (i := 15) (v := ?_) rfl (by kernel_rfl) (by kernel_rfl) (by kernel_rfl) (fun _ _ _ h => h) (Or.inl ⟨by rfl, ?_⟩) hH6 ?_
              rotate_left
              · (intro w hSw; (try dsimp only at hSw); go_simp; try with_reducible rfl)
              (try simp only [Act.put, List.getElem_toArray, List.getElem_cons_zero, List.getElem_cons_succ, List.setIfInBounds_toArray, List.set_cons_zero, List.set_cons_succ])
              refine wpAnyH_take (i := 16) (v := ?_) rfl (by kernel_rfl) (by kernel_rfl) (by kernel_rfl) (fun _ _ _ h => h) (Or.inl ⟨by rfl, ?_⟩) hH6 ?_
              rotate_left
              · (intro w hSw; (try dsimp only at hSw); go_simp; try with_reducible rfl)
              (try simp only [Act.put, List.getElem_toArray, List.getElem_cons_zero, List.getElem_cons_succ, List.setIfInBounds_toArray, List.set_cons_zero, List.set_cons_succ])
              refine wpAnyH_take (i := 17) (v := ?_) rfl (by kernel_rfl) (by kernel_rfl) (by kernel_rfl) (fun _ _ _ h => h) (Or.inl ⟨by rfl, ?_⟩) hH6 ?_
              rotate_left
              · (intro w hSw; (try dsimp only at hSw); go_simp; try with_reducible rfl)
              (try simp only [Act.put, List.getElem_toArray, List.getElem_cons_zero, List.getElem_cons_succ, List.setIfInBounds_toArray, List.set_cons_zero, List.set_cons_succ])
              refine wpAnyH_take (i := 18) (v := ?_) rfl (by kernel_rfl) (by kernel_rfl) (by kernel_rfl) (fun _ _ _ h => h) (Or.inl ⟨by rfl, ?_⟩) hH6 ?_
              rotate_left
              · (intro w hSw; (try dsimp only at hSw); go_simp; try with_reducible rfl)
              (try simp only [Act.put, List.getElem_toArray, List.getElem_cons_zero, List.getElem_cons_succ, List.setIfInBounds_toArray, List.set_cons_zero, List.set_cons_succ])
              refine wpAnyH_take (i := 19) (v := ?_) rfl (by kernel_rfl) (by kernel_rfl) (by kernel_rfl) (fun _ _ _ h => h) (Or.inl ⟨by rfl, ?_⟩) hH6 ?_
              rotate_left
              · (intro w hSw; (try dsimp only at hSw); go_simp; try with_reducible rfl)
              (try simp only [Act.put, List.getElem_toArray, List.getElem_cons_zero, List.getElem_cons_succ, List.setIfInBounds_toArray, List.set_cons_zero, List.set_cons_succ])
              refine wpAnyH_take (i := 20) (v := ?_) rfl (by kernel_rfl) (by kernel_rfl) (by kernel_rfl) (fun _ _ _ h => h) (Or.inl ⟨by rfl, ?_⟩) hH6 ?_
              rotate_left
              · (intro w hSw; (try dsimp only at hSw); go_simp; try with_reducible rfl)
              (try simp only [Act.put, List.getElem_toArray, List.getElem_cons_zero, List.getElem_cons_succ, List.setIfInBounds_toArray, List.set_cons_zero, List.set_cons_succ])
              refine wpAnyH_take (i := 21) (v := ?_) rfl (by kernel_rfl) (by kernel_rfl) (by kernel_rfl) (fun _ _ _ h => h) (Or.inl ⟨by rfl, ?_⟩) hH6 ?_
              rotate_left
              · (intro w hSw; (try dsimp only at hSw); go_simp; try with_reducible rfl)
              (try simp only [Act.put, List.getElem_toArray, List.getElem_cons_zero, List.getElem_cons_succ, List.setIfInBounds_toArray, List.set_cons_zero, List.set_cons_succ])
              refine wpAnyH_take (i := 22) (v := ?_) rfl (by kernel_rfl) (by kernel_rfl) (by kernel_rfl) (fun _ _ _ h => h) (Or.inl ⟨by rfl, ?_⟩) hH6 ?_
              rotate_left
              · (intro w hSw; (try dsimp only at hSw); go_simp; try with_reducible rfl)
              (try simp only [Act.put, List.getElem_toArray, List.getElem_cons_zero, List.getElem_cons_succ, List.setIfInBounds_toArray, List.set_cons_zero, List.set_cons_succ])
              refine wpAnyH_take (i := 23) (v := ?_) rfl (by kernel_rfl) (by kernel_rfl) (by kernel_rfl) (fun _ _ _ h => h) (Or.inl ⟨by rfl, ?_⟩) hH6 ?_
              rotate_left
              · (intro w hSw; (try dsimp only at hSw); go_simp; try with_reducible rfl)
              (try simp only [Act.put, List.getElem_toArray, List.getElem_cons_zero, List.getElem_cons_succ, List.setIfInBounds_toArray, List.set_cons_zero, List.set_cons_succ])
              refine wpAnyH_done (by kernel_rfl) ?_ _
              go_wp2
              go_ret
              exact ⟨rfl, ka6⟩
            exact AllReadyH.nil
          exact AllReadyH.nil
        exact AllReadyH.nil
      exact AllReadyH.nil
    exact AllReadyH.nil
  exact AllReadyH.nil
theorem bsame_any (p q : Pl) (a b : Bk) (w : World) (ha : BkS w p a) (hb : BkS w q b) : Calls Tryz.prog 22 #[.pointer (some ⟨p.p, 0, none⟩), .pointer (some ⟨q.p, 0, none⟩)] w fun e w' => e = .returned (.bool (sameBk a b)) ∧ Fr No w w' := by
  unfold sameBk
  by_cases h1 : a.S = b.S
  · by_cases h2 : a.H = b.H
    · refine (bsameT p q a b w ha hb h1 h2).mono fun e w' h => ⟨?_, h.2⟩
      rw [h.1]
      simp only [h1, h2, true_and]
    · refine (bsameH p q a b w ha hb h1 h2).mono fun e w' h => ⟨?_, h.2⟩
      rw [h.1, decide_eq_false (fun e => h2 e.2.1)]
  · refine (bsameA p q a b w ha hb h1).mono fun e w' h => ⟨?_, h.2⟩
    rw [h.1, decide_eq_false (fun e => h1 e.1)]
theorem bsame_nil (w : World) : Calls Tryz.prog 22 #[.pointer none, .pointer none] w fun e w' => e = .returned (.bool true) ∧ w' = w := by
  go_enter Tryz.func22, Tryz.ntmps22
  go_wp2
  go_ret
  exact ⟨rfl, rfl⟩
theorem bsame_nilR (p : Nat) (w : World) : Calls Tryz.prog 22 #[.pointer (some ⟨p, 0, none⟩), .pointer none] w fun e w' => e = .returned (.bool false) ∧ w' = w := by
  go_enter Tryz.func22, Tryz.ntmps22
  go_wp2
  go_ret
  exact ⟨rfl, rfl⟩
end Go.Proofs.YtjbeaoabhhaiiaaGreat

namespace Go.Proofs.YtjbeaoabhhaiiaaGreat
open Go.RowKit Go.My Go.Maps
set_option linter.unusedSimpArgs false
set_option linter.unusedVariables false

/-- an order's cells; its legs lie in memory as they came in with the world w0 -/
def OdR (w0 : World) (cs : List Value) (o : Od) : Prop := ∃ v, cs = o.cs v ∧ o.ok ∧ (∀ g ∈ o.legs, g.ok) ∧ LgS w0 (Lt w0.heap.size) v o.legs
/-- orders in a slice -/
def OdsS (w0 w : World) (F : Nat → Prop) (A : Option Addr) (l : List Od) : Prop := ∃ cells, Rd w F 10 A l.length cells ∧ Each (OdR w0) 10 cells l
section
variable {w0 w w' : World} {F G : Nat → Prop} {A : Option Addr} {l : List Od}
theorem OdsS.fr {S : Nat → Prop} (h : OdsS w0 w F A l) (hf : Fr S w w') (hn : ∀ k, F k → k < w.heap.size → ¬ S k) : OdsS w0 w' F A l := by
  obtain ⟨cells, hr, hE⟩ := h
  exact ⟨cells, hr.fr (by omega) hf hn, hE⟩
theorem OdsS.more (h : OdsS w0 w F A l) (hB : ∀ k, F k → G k) : OdsS w0 w G A l := by
  obtain ⟨cells, hr, hE⟩ := h
  exact ⟨cells, hr.more hB, hE⟩
theorem OdsS.below {B : Nat} (h : OdsS w0 w F A l) (hb : Below B w w') (hF : ∀ k, F k → k < B) : OdsS w0 w' F A l := by
  obtain ⟨cells, hr, hE⟩ := h
  exact ⟨cells, hr.below hb hF, hE⟩
theorem OdsS.ok (h : OdsS w0 w F A l) : ∀ o ∈ l, o.ok := fun o ho => by
  obtain ⟨cells, hr, hE⟩ := h
  obtain ⟨i, hi, rfl⟩ := List.getElem_of_mem ho
  obtain ⟨v, _, h1, _⟩ := hE.2 i _ (List.getElem?_eq_getElem hi)
  exact h1
/-- the order at k -/
theorem OdsS.at_ (h : OdsS w0 w F A l) (k : Nat) (hk : k < l.length) :
    ∃ ad v, A = some ad ∧ F ad.block ∧ l[k].ok ∧ (∀ g ∈ l[k].legs, g.ok) ∧ LgS w0 (Lt w0.heap.size) v l[k].legs ∧ w.cell? (ad.add (k * 10)) = some (.int .i64 l[k].cl) ∧ w.cell? ⟨(ad.add (k * 10)).block, (ad.add (k * 10)).off + 1, none⟩ = some (.int .i64 l[k].sq) ∧
      w.cell? ⟨(ad.add (k * 10)).block, (ad.add (k * 10)).off + 2, none⟩ = some (.int .i64 l[k].kd) ∧ w.cell? ⟨(ad.add (k * 10)).block, (ad.add (k * 10)).off + 3, none⟩ = some (.string l[k].acct) ∧
      w.cell? ⟨(ad.add (k * 10)).block, (ad.add (k * 10)).off + 4, none⟩ = some (.string l[k].peer) ∧ w.cell? ⟨(ad.add (k * 10)).block, (ad.add (k * 10)).off + 5, none⟩ = some (.int .i64 l[k].sum) ∧
      w.cell? ⟨(ad.add (k * 10)).block, (ad.add (k * 10)).off + 6, none⟩ = some v ∧ w.cell? ⟨(ad.add (k * 10)).block, (ad.add (k * 10)).off + 7, none⟩ = some (.int .i64 l[k].per) ∧
      w.cell? ⟨(ad.add (k * 10)).block, (ad.add (k * 10)).off + 8, none⟩ = some (.int .i64 l[k].hold) ∧ w.cell? ⟨(ad.add (k * 10)).block, (ad.add (k * 10)).off + 9, none⟩ = some (.string l[k].note) := by
  obtain ⟨cells, hr, hE⟩ := h
  obtain ⟨ad, rfl, hF, hc⟩ := hr.2 (by omega)
  obtain ⟨v, hcs, hok, hg, hL⟩ := hE.2 k l[k] (List.getElem?_eq_getElem hk)
  have hget : ∀ i, i < 10 → cells[k * 10 + i]? = (l[k].cs v)[i]? := fun i hi => by
    rw [← hcs, List.getElem?_take, if_pos hi, List.getElem?_drop]
  refine ⟨ad, v, rfl, hF, hok, hg, hL, hc (k * 10) _ (by have := hget 0 (by omega); rw [Nat.add_zero] at this; rw [this]; rfl), ?_, ?_, ?_, ?_, ?_, ?_, ?_, ?_, ?_⟩
  · rw [← add_lits ad (k * 10) 1 (by omega)]
    exact hc _ _ (by rw [hget 1 (by omega)]; rfl)
  · rw [← add_lits ad (k * 10) 2 (by omega)]
    exact hc _ _ (by rw [hget 2 (by omega)]; rfl)
  · rw [← add_lits ad (k * 10) 3 (by omega)]
    exact hc _ _ (by rw [hget 3 (by omega)]; rfl)
  · rw [← add_lits ad (k * 10) 4 (by omega)]
    exact hc _ _ (by rw [hget 4 (by omega)]; rfl)
  · rw [← add_lits ad (k * 10) 5 (by omega)]
    exact hc _ _ (by rw [hget 5 (by omega)]; rfl)
  · rw [← add_lits ad (k * 10) 6 (by omega)]
    exact hc _ _ (by rw [hget 6 (by omega)]; rfl)
  · rw [← add_lits ad (k * 10) 7 (by omega)]
    exact hc _ _ (by rw [hget 7 (by omega)]; rfl)
  · rw [← add_lits ad (k * 10) 8 (by omega)]
    exact hc _ _ (by rw [hget 8 (by omega)]; rfl)
  · rw [← add_lits ad (k * 10) 9 (by omega)]
    exact hc _ _ (by rw [hget 9 (by omega)]; rfl)
/-- legs stay as they came in -/
theorem LgS.keep0 {v : Value} {L : List Lg} (h : LgS w0 (Lt w0.heap.size) v L) (hb : Below w0.heap.size w0 w) : LgS w (Lt w0.heap.size) v L := h.below hb
/-- a row of orders -/
theorem Each.nilO (w0 : World) : Each (OdR w0) 10 [] [] := ⟨rfl, fun i x hx => by simp at hx⟩
theorem Each.snocO {w0 : World} {cells cs : List Value} {l : List Od} (h : Each (OdR w0) 10 cells l) {o : Od} (hl : cs.length = 10) (ho : OdR w0 cs o) : Each (OdR w0) 10 (cells ++ cs) (l ++ [o]) := by
  refine ⟨by rw [List.length_append, hl, h.1, List.length_append]; simp; omega, fun i x hx => ?_⟩
  by_cases hi : i < l.length
  · rw [List.getElem?_append_left hi] at hx
    have h1 := h.2 i x hx
    have h2 : i * 10 + 10 ≤ cells.length := by rw [h.1]; omega
    rw [List.drop_append_of_le_length (by omega), List.take_append_of_le_length (by rw [List.length_drop]; omega)]
    exact h1
  · rw [List.getElem?_append_right (by omega)] at hx
    have hi0 : i - l.length = 0 := by
      rcases Nat.eq_zero_or_pos (i - l.length) with h0 | h0
      · exact h0
      · rw [List.getElem?_eq_none (by simp; omega)] at hx; cases hx
    rw [hi0] at hx
    simp only [List.getElem?_cons_zero, Option.some.injEq] at hx
    subst hx
    have : i = l.length := by omega
    subst this
    rw [← h.1, List.drop_left, List.take_of_length_le (by omega)]
    exact ho
end
theorem elO : El Tryz.prog 27 35 10 120 := ⟨Tryz.underlying27, by
  have h : (Tryz.prog.info? 35).map (fun i => (i.zero, i.size, i.bytes)) = some (some (.agg #[.int .i64 0, .int .i64 0, .int .i64 0, .string ⟨#[]⟩, .string ⟨#[]⟩, .int .i64 0, .slice none 0 0, .int .i64 0, .int .i64 0, .string ⟨#[]⟩]), 10, 120) := by kernel_rfl
  obtain ⟨i, hi, hz, hs, hb⟩ := info_parts h
  exact ⟨i, _, hi, hz, hs, hb, rfl⟩, by omega⟩
theorem elR : El Tryz.prog 63 41 4 32 := ⟨Tryz.underlying63, by
  have h : (Tryz.prog.info? 41).map (fun i => (i.zero, i.size, i.bytes)) = some (some (.agg #[.int .i64 0, .int .i64 0, .int .i64 0, .int .i64 0]), 4, 32) := by kernel_rfl
  obtain ⟨i, hi, hz, hs, hb⟩ := info_parts h
  exact ⟨i, _, hi, hz, hs, hb, rfl⟩, by omega⟩
/-- replies as cells -/
def rpC (r : Rp) : List Value := [.int .i64 r.err, .int .i64 r.hv, .int .i64 r.st, .int .i64 r.num]
def rps (l : List Rp) : List Value := l.flatMap rpC
theorem rps_append (l m : List Rp) : rps (l ++ m) = rps l ++ rps m := by unfold rps; rw [List.flatMap_append]
theorem rps_one (r : Rp) : rps [r] = rpC r := by simp [rps]
theorem rps_length (l : List Rp) : (rps l).length = l.length * 4 := by
  induction l with
  | nil => rfl
  | cons a r ih => show (rpC a ++ rps r).length = _; rw [List.length_append, ih, List.length_cons]; simp [rpC]; omega
theorem rps_get (l : List Rp) : ∀ (k i : Nat) (hk : k < l.length), i < 4 → (rps l)[k * 4 + i]? = (rpC l[k])[i]? := by
  induction l with
  | nil => intro k i hk; simp at hk
  | cons a r ih =>
    intro k i hk hi
    show (rpC a ++ rps r)[k * 4 + i]? = _
    have ha : (rpC a).length = 4 := rfl
    cases k with
    | zero =>
      rw [Nat.zero_mul, Nat.zero_add, List.getElem?_append_left (by omega)]
      rfl
    | succ k =>
      rw [List.getElem?_append_right (by omega)]
      have : (k + 1) * 4 + i - (rpC a).length = k * 4 + i := by omega
      rw [this, ih k i (by simpa using hk) hi]
      rfl
/-- a reply in memory -/
theorem rp_at {w : World} {F : Nat → Prop} {A : Option Addr} {S : List Rp} (h : Rd w F 4 A S.length (rps S)) (k : Nat) (hk : k < S.length) :
    ∃ ad, A = some ad ∧ F ad.block ∧ w.cell? (ad.add (k * 4)) = some (.int .i64 S[k].err) ∧ w.cell? ⟨(ad.add (k * 4)).block, (ad.add (k * 4)).off + 1, none⟩ = some (.int .i64 S[k].hv) ∧
      w.cell? ⟨(ad.add (k * 4)).block, (ad.add (k * 4)).off + 2, none⟩ = some (.int .i64 S[k].st) ∧ w.cell? ⟨(ad.add (k * 4)).block, (ad.add (k * 4)).off + 3, none⟩ = some (.int .i64 S[k].num) := by
  obtain ⟨ad, rfl, hF, hc⟩ := h.2 (by omega)
  refine ⟨ad, rfl, hF, hc (k * 4) _ (by have := rps_get S k 0 hk (by omega); rw [Nat.add_zero] at this; rw [this]; rfl), ?_, ?_, ?_⟩
  · rw [← add_lits ad (k * 4) 1 (by omega)]
    exact hc _ _ (by rw [rps_get S k 1 hk (by omega)]; rfl)
  · rw [← add_lits ad (k * 4) 2 (by omega)]
    exact hc _ _ (by rw [rps_get S k 2 hk (by omega)]; rfl)
  · rw [← add_lits ad (k * 4) 3 (by omega)]
    exact hc _ _ (by rw [rps_get S k 3 hk (by omega)]; rfl)
section
open Go.ChangeShapes Go.WideShapes
variable {H : Type} {enc : TypeId × Value → H} {w : World} {base : Nat} {spare : Nat → Bool} {held : Bool}
/-- orders that came in -/
theorem open_ods {fuel : Nat} {cs : List Value} {x : DataW H × List MemPlace} (h : DataW.trod enc Tryz.prog w base spare held fuel 27 cs = some x) :
    ∃ (A : Option Addr) (c : Nat) (l : List Od), cs = [.slice A l.length c] ∧ OdsS w w (Lt w.heap.size) A l ∧ l.length ≤ c ∧ c ≤ maxLen := by
  obtain ⟨A, c, cells, l, h1, h2, h3, h4, h5⟩ := open_each (OdR w) Tryz.underlying27 (size := 10) (by kernel_rfl) (by omega) (fun n cs x hx => by
    obtain ⟨o, v, h1, h2, h3, h4⟩ := open_od hx
    exact ⟨o, v, h1, h2, h3, h4⟩) h
  exact ⟨A, c, l, h1, ⟨cells, h2, h5⟩, h3, h4⟩
end
end Go.Proofs.YtjbeaoabhhaiiaaGreat

namespace Go.Proofs.YtjbeaoabhhaiiaaGreat
open Go.RowKit Go.My Go.Maps
set_option linter.unusedSimpArgs false
set_option linter.unusedVariables false
attribute [local go_sem ↓] Go.wp_at_zero Go.wp_at_succ

/-- a row of replies is no block of a book -/
theorem own_farB {w : World} {q : Pl} {b : Bk} {v : Value} {n : Nat} {xs : List Value} (ho : Own w 41 4 v n xs) (h : BkS w q b) : ∀ i, q.all i → v.ownBlock ≠ some i := fun i hi hk => by
  obtain ⟨cur, hc⟩ := ho.blk i hk
  rcases hi with rfl | rfl | rfl | rfl | rfl
  · exact Blk.ne_ h.blk hc (by decide) rfl
  · exact Blk.ne_ h.ch.1 hc (by decide) rfl
  · exact h.ch.2.ne_ hc rfl
  · exact Blk.ne_ h.hd.1 hc (by decide) rfl
  · exact h.hd.2.ne_ hc rfl
def FoRel (w : World) (q : Pl) (l : List Od) (lv iv : Value) (wr : World) : Prop :=
  ∃ k : Nat, k ≤ l.length ∧ iv = .int .i64 k ∧ Own wr 41 4 lv k (rps (foldR bk0 (l.take k))) ∧ BkS wr q (foldB bk0 (l.take k)) ∧ Fr No w wr ∧ Newer w.heap.size none lv.ownBlock
theorem fold_take (b : Bk) (l : List Od) (k : Nat) (hk : k < l.length) : foldR b (l.take (k + 1)) = foldR b (l.take k) ++ [doR (foldB b (l.take k)) l[k]] ∧ foldB b (l.take (k + 1)) = doB (foldB b (l.take k)) l[k] := by
  rw [List.take_succ_eq_append_getElem hk]
  exact ⟨foldR_append _ _ _, foldB_append _ _ _⟩
/-- what Fold hands back: replies, and a book -/
def FoldRet (w : World) (l : List Od) (e : Ending) (w' : World) : Prop := ∃ A c q, e = .returned (.tuple #[.slice A l.length c, .pointer (some ⟨q.p, 0, none⟩)]) ∧ Rd w' (fun k => w.heap.size ≤ k) 4 A l.length (rps (foldR bk0 l)) ∧ BkS w' q (foldB bk0 l) ∧ Fr No w w' ∧ (∀ i, Pl.all q i → w.heap.size ≤ i) ∧ l.length ≤ c ∧ c ≤ maxLen
set_option maxRecDepth 100000 in
set_option maxHeartbeats 4000000 in
theorem fold_any (w0 w : World) (F : Nat → Prop) (A : Option Addr) (c : Nat) (l : List Od) (hl : OdsS w0 w F A l) (hb0 : Below w0.heap.size w0 w) (hlc : l.length ≤ 1000) :
    Calls Tryz.prog 21 #[.slice A l.length c] w (FoldRet w l) := by
  have HL : Hid (OdsS w0 w (Lt w.heap.size) A l) := by
    obtain ⟨cells, hr, hE⟩ := hl
    exact ⟨cells, rd_lt hr (by omega), hE⟩
  have HB0 := Lib.hid hb0
  have HNEW := Lib.hid (newB_any w)
  have hlm : l.length ≤ 1000 := hlc
  clear hl hb0 hlc
  go_enter Tryz.func21, Tryz.ntmps21
  go_wp2_with fail
  (with_reducible refine HNEW.out.mono ?_)
  rintro e w1 ⟨q, rfl, hb1, hf1, hq1⟩
  have HF1 := Lib.hid hf1
  have HQ := Lib.hid hq1
  have HB1 := Lib.hid hb1
  clear hf1 hq1 hb1 HNEW
  go_wp2
  go_loopw [5, 11] (fun lv iv wr => FoRel w q l lv iv wr) (fun _ iv _ => l.length - (intOf iv).toNat)
  case atStart => exact ⟨0, Nat.zero_le _, rfl, Own.nil _ _ _, HB1.out, HF1.out, .inl rfl⟩
  case round =>
    obtain ⟨k, hk, rfl, hown, hbk, hfr, hnew⟩ := hrel
    by_cases hlt : k < l.length
    · obtain ⟨ad, v, rfl, _, hok, hg, hL, q0, q1, q2, q3, q4, q5, q6, q7, q8, q9⟩ := (HL.out.below hfr.belowNo (fun _ h => h)).at_ k hlt
      obtain ⟨B, d, rfl, hd1, hd2⟩ := hL.form
      obtain ⟨E1, E2⟩ := fold_take bk0 l k hlt
      have hW : ∀ W, Fr No wr W → Below w0.heap.size w0 W := fun W h => (HB0.out.trans (hfr.belowNo.mono HB0.out.size)).trans (h.belowNo.mono (by have := hfr.size; have := HB0.out.size; omega))
      have hFF : ∀ W, Fr No wr W → ∀ k, Lt w0.heap.size k → k < W.heap.size ∧ k ≠ q.m := fun W h k hk => by
        have h1 : k < w0.heap.size := hk
        have h2 := (hW W h).size
        have h3 := HQ.out q.m (.inr (.inr (.inl rfl)))
        have h4 := HB0.out.size
        exact ⟨by omega, by omega⟩
      have HDO : Hid (∀ W, Fr No wr W → Calls Tryz.prog 25 #[.pointer (some ⟨q.p, 0, none⟩), l[k].val (.slice B l[k].legs.length d)] W (DidB q (doR (foldB bk0 (l.take k)) l[k]) (doB (foldB bk0 (l.take k)) l[k]) W)) := fun W h =>
        do_any _ q _ l[k] _ W (hbk.no h) hok (hL.below (hW W h)) (hFF W h)
      rw [← E2] at HDO
      generalize doR (foldB bk0 (l.take k)) l[k] = R at *
      obtain ⟨re, rh, rs, rn⟩ := R
      have HE1 : Hid (rps (foldR bk0 (l.take (k + 1))) = rps (foldR bk0 (l.take k)) ++ [.int .i64 re, .int .i64 rh, .int .i64 rs, .int .i64 rn]) := by
        show _ = _
        rw [E1, rps_append, rps_one]
        rfl
      have HDX : Hid (∀ W, Fr No wr W → Calls Tryz.prog 25 #[.pointer (some ⟨q.p, 0, none⟩), .agg #[.int .i64 l[k].cl, .int .i64 l[k].sq, .int .i64 l[k].kd, .string l[k].acct, .string l[k].peer, .int .i64 l[k].sum, .slice B l[k].legs.length d, .int .i64 l[k].per, .int .i64 l[k].hold, .string l[k].note]] W fun e w' => e = .returned (.agg #[.int .i64 re, .int .i64 rh, .int .i64 rs, .int .i64 rn]) ∧ BkS w' q (foldB bk0 (l.take (k + 1))) ∧ Fr q.wr W w') := fun W h => HDO.out W h
      have hX : Hid (k + 1 ≤ maxLen ∧ (k + 1) * 32 ≤ 140737488355328) := by
        refine ⟨?_, ?_⟩ <;> (try simp only [maxLen]) <;> omega
      have HBK := Lib.hid hbk
      have HFR := Lib.hid hfr
      have HOW := Lib.hid hown
      clear HDO E1 E2 hW hFF hok hg hL hbk hfr hown
      generalize hRS : foldR bk0 (l.take (k + 1)) = RS' at *
      have HRS := Lib.hid hRS
      clear hRS
      generalize foldR bk0 (l.take k) = RS at *
      generalize hbb : foldB bk0 (l.take (k + 1)) = bb' at *
      have HBB := Lib.hid hbb
      clear hbb
      generalize foldB bk0 (l.take k) = bb at *
      generalize l[k].legs = L at *
      generalize l[k].cl = cl at *
      generalize l[k].sq = sq at *
      generalize l[k].kd = kd at *
      generalize l[k].acct = acct at *
      generalize l[k].peer = peer at *
      generalize l[k].sum = sum at *
      generalize l[k].per = per at *
      generalize l[k].hold = hold at *
      generalize l[k].note = note at *
      go_wp2_with fail
      (with_reducible refine (HDX.out _ ((Fr.refl _ wr).alloc _)).mono ?_)
      rintro e w5 ⟨rfl, hb5, hg5⟩
      have hfar := own_farB HOW.out HBK.out
      have how5 := (HOW.out.alloc (.cells #[.int .i64 cl, .int .i64 sq, .int .i64 kd, .string acct, .string peer, .int .i64 sum, .slice B L.length d, .int .i64 per, .int .i64 hold, .string note] 35)).fr hg5 (fun i hi h => hfar i (Pl.wr_all h) hi)
      have HFAR := Lib.hid (own_farB how5 hb5)
      have HB5 := Lib.hid hb5
      have HW5 := Lib.hid how5
      have HF5 : Hid (Fr No w w5) := (HFR.out.alloc (.cells #[.int .i64 cl, .int .i64 sq, .int .i64 kd, .string acct, .string peer, .int .i64 sum, .slice B L.length d, .int .i64 per, .int .i64 hold, .string note] 35)).trans' hg5 (fun i hi hlt => absurd (HQ.out i (Pl.wr_all hi)) (by omega))
      clear hfar how5 hb5 hg5 q0 q1 q2 q3 q4 q5 q6 q7 q8 q9
      go_wp2_with (at_builtin; refine wpList_app _ rfl (.tmp 15) (.tmp 19) 63 63 rfl elR (HW5.out.alloc _) rfl (Src.of_new w5.heap.size (heap_alloc_new w5 _) Tryz.underlying63 rfl (by simp [Value.oneCell'])) rfl hX.out.1 hX.out.2 ?_; intro v1 w3 hown3 hfr3 hnew3)
      go_roundw
      case rel =>
        refine ⟨k + 1, by omega, by go_num, ?_, ?_, ?_, ?_⟩
        · rw [HRS.out, HE1.out]
          exact hown3
        · rw [HBB.out]
          exact (HB5.out.no ((Fr.refl _ _).alloc _)).fr hfr3 (fun i hi h => HFAR.out i hi h)
        · exact fr_no (HF5.out.alloc _) hnew hfr3
        · exact hnew.trans (Newer.of hnew3) (by have := HF5.out.size; simp; omega)
      case measure => simp [intOf]; omega
    · obtain rfl : k = l.length := by omega
      rw [List.take_length] at hown hbk
      obtain ⟨A1, c1, rfl, hl1, hm1⟩ := hown.form
      have HR := Lib.hid (hown.rd.more (G := fun k => w.heap.size ≤ k) fun k hk => newer_none hnew k hk)
      have HBK := Lib.hid hbk
      have HFR := Lib.hid hfr
      clear hown hbk hfr hnew
      go_wp2
      go_ret2
      exact ⟨A1, c1, q, rfl, HR.out, HBK.out, HFR.out, HQ.out, hl1, hm1⟩
end Go.Proofs.YtjbeaoabhhaiiaaGreat

namespace Go.Proofs.YtjbeaoabhhaiiaaGreat
open Go.RowKit Go.My Go.Maps
set_option linter.unusedSimpArgs false
set_option linter.unusedVariables false

def NmB (S : List Ac) : Prop := ∀ a ∈ S, nameB a.name = true
theorem NmB.put {S : List Ac} (h : NmB S) {a : Ac} (ha : nameB a.name = true) : NmB (putA a S) := fun b hb => by
  rcases mem_putA hb with rfl | hb
  · exact ha
  · exact h b hb
theorem NmB.act {S : List Ac} (h : NmB S) {f : Ac → Int} {g : Ac → Ac} (hg : ∀ a, (g a).name = a.name) (nm : List UInt8) : NmB (actS f g S nm) := by
  unfold actS
  cases hq : getA S nm with
  | none => exact h
  | some a =>
    simp only
    split
    · exact h.put (by rw [hg]; exact h a (getA_some hq).1)
    · exact h
theorem NmB.asd {S : List Ac} (h : NmB S) (nm : List UInt8) (x : Int) : NmB (asdS S nm x) := h.act (fun a => asideA_name a x) nm
theorem NmB.leg {S : List Ac} (h : NmB S) (g : Lg) : NmB (legS S g) := by
  unfold legS
  split
  · exact h.act (fun a => giveA_name a _) _
  · exact h
theorem NmB.legs {S : List Ac} (h : NmB S) (L : List Lg) : NmB (legsS S L) := by
  induction L generalizing S with
  | nil => exact h
  | cons g r ih =>
    unfold legsS
    split
    · exact ih (h.leg g)
    · exact h
theorem NmB.make {S : List Ac} (h : NmB S) (L : List Lg) : NmB (makeS S L) := by
  unfold makeS
  split
  · exact h.legs L
  · exact h
theorem NmB.doB {b : Bk} (h : NmB b.S) (o : Od) : NmB (doB b o).S := by
  unfold Go.Proofs.YtjbeaoabhhaiiaaGreat.doB
  split
  · unfold effB
    split
    · simp only
      unfold openS
      split
      · rename_i h0
        refine h.put ?_
        unfold openE at h0
        split at h0
        · cases h0
        · rename_i h1
          simp only [not_or, Bool.not_eq_false] at h1
          exact h1.1
      · exact h
    split
    · split
      · exact h
      · exact h.make _
    split
    · simp only
      unfold putSS
      split
      · exact h.asd _ _
      · exact h
    split
    · split
      · exact h
      · simp only
        unfold takeSS
        split
        · exact (h.asd _ _).make _
        · exact h
    split
    · simp only
      unfold freeSS
      split
      · exact h
      · exact h.asd _ _
    split
    · split
      · exact h
      · exact h
    exact h
  · exact h
theorem NmB.fold {b : Bk} (h : NmB b.S) (l : List Od) : NmB (foldB b l).S := by
  induction l generalizing b with
  | nil => exact h
  | cons o r ih => exact ih (h.doB o)
theorem nmB0 : NmB bk0.S := fun a h => by cases h

/-- an order of a client's -/
def askOd (seq kd : Int) (acct : ByteArray) (sum : Int) : Od := ⟨0, seq, kd, acct, ⟨#[]⟩, sum, [], 0, 0, ⟨#[]⟩⟩
theorem ask_right {s : Int} (hs : 1 ≤ s ∧ s ≤ 999) (a : ByteArray) : rightO (askOd s 7 a 0) = nameB a.data.toList := by
  unfold rightO idB acctB peerB sumB legsB perB holdB noteB askOd Od.an Od.pn
  simp [hs.1, hs.2]
theorem ask_do {b : Bk} {s : Int} (hs : 1 ≤ s ∧ s ≤ 999) (a : ByteArray) : doR b (askOd s 7 a 0) = (if nameB a.data.toList = true then aboutR b.S a.data.toList 0 else errR 1) ∧ doB b (askOd s 7 a 0) = b := by
  unfold doR doB
  rw [ask_right hs]
  refine ⟨rfl, ?_⟩
  split <;> rfl
/-- what is told: of an account, or that there is none -/
theorem ask_case {b : Bk} (hn : NmB b.S) (hr : Rise b.S) (a : ByteArray) : ∃ R : Rp, (∀ s, 1 ≤ s ∧ s ≤ 999 → doR b (askOd s 7 a 0) = R) ∧ ((∃ c, c ∈ b.S ∧ c.name = a.data.toList ∧ R = ⟨0, c.hv, c.st, 0⟩ ∧ ∀ d ∈ b.S, d.name = a.data.toList → d = c) ∨ ((∀ c ∈ b.S, c.name ≠ a.data.toList) ∧ (R = ⟨6, 0, 0, 0⟩ ∨ R = ⟨1, 0, 0, 0⟩))) := by
  refine ⟨_, fun s hs => (ask_do hs a).1, ?_⟩
  cases hg : getA b.S a.data.toList with
  | none =>
    refine .inr ⟨getA_none hg, ?_⟩
    split
    · left
      unfold aboutR getV
      rw [if_pos rfl, hg]
      rfl
    · right; rfl
  | some c =>
    obtain ⟨hc, hcn⟩ := getA_some hg
    have h1 : nameB a.data.toList = true := by rw [← hcn]; exact hn c hc
    refine .inl ⟨c, hc, hcn, ?_, fun d hd hdn => ?_⟩
    · rw [if_pos h1]
      unfold aboutR getV
      rw [if_pos rfl, hg]
      rfl
    · have h2 := getA_mem hr hd
      rw [hdn, hg] at h2
      injection h2 with h2
      exact h2.symm
end Go.Proofs.YtjbeaoabhhaiiaaGreat

namespace Go.Proofs.YtjbeaoabhhaiiaaGreat
open Go.RowKit Go.My Go.Maps
set_option linter.unusedSimpArgs false
set_option linter.unusedVariables false

theorem getA_cons (a : Ac) (r : List Ac) (k : List UInt8) : getA (a :: r) k = if a.name = k then some a else getA r k := by
  unfold getA
  rw [List.find?_cons]
  by_cases h : a.name = k
  · rw [if_pos h]; simp [h]
  · rw [if_neg h, beq_eq_false_iff_ne.2 h]
theorem getA_above {S : List Ac} {k : List UInt8} (h : ∀ a ∈ S, bytesBefore k a.name = true) : getA S k = none := by
  cases hq : getA S k with
  | none => rfl
  | some a =>
    have := h a (getA_some hq).1
    rw [(getA_some hq).2, WideAt.bytes_irrefl] at this
    cases this
theorem rise_above {a : Ac} {r : List Ac} (h : Rise (a :: r)) : ∀ b ∈ r, bytesBefore a.name b.name = true := fun b hb => (List.pairwise_cons.1 h).1 b hb
theorem rise_ext : ∀ (S T : List Ac), Rise S → Rise T → (∀ k, getA S k = getA T k) → S = T
  | [], [], _, _, _ => rfl
  | [], b :: t, _, _, h => by have := h b.name; rw [getA_cons, if_pos rfl] at this; cases this
  | a :: r, [], _, _, h => by have := h a.name; rw [getA_cons, if_pos rfl] at this; cases this
  | a :: r, b :: t, hs, ht, h => by
    have hab : a.name = b.name := by
      rcases Decidable.em (a.name = b.name) with e | e
      · exact e
      · exfalso
        rcases WideAt.bytes_total a.name b.name e with g | g
        · have h1 := h a.name
          rw [getA_cons, if_pos rfl, getA_above (S := b :: t) (fun c hc => by
            rcases List.mem_cons.1 hc with rfl | hc
            · exact g
            · exact WideShapes.bytes_trans _ _ _ g (rise_above ht c hc))] at h1
          cases h1
        · have h1 := h b.name
          rw [getA_cons b, if_pos rfl, getA_above (S := a :: r) (fun c hc => by
            rcases List.mem_cons.1 hc with rfl | hc
            · exact g
            · exact WideShapes.bytes_trans _ _ _ g (rise_above hs c hc))] at h1
          cases h1
    have h0 := h a.name
    rw [getA_cons, if_pos rfl, getA_cons, if_pos hab.symm] at h0
    injection h0 with h0
    subst h0
    congr 1
    refine rise_ext r t (List.pairwise_cons.1 hs).2 (List.pairwise_cons.1 ht).2 fun k => ?_
    by_cases hk : a.name = k
    · subst hk
      rw [getA_above (rise_above hs), getA_above (rise_above ht)]
    · have h1 := h k
      rw [getA_cons, if_neg hk, getA_cons, if_neg hk] at h1
      exact h1

/-- what an account has behind all legs -/
theorem legs_get (S : List Ac) : ∀ (L : List Lg) (T : List Ac), (L.map Lg.nm).Nodup → (∀ g ∈ L, getA T g.nm = getA S g.nm) → (∀ g ∈ L, legE S g = 0) → ∀ k, getA (legsS T L) k = match L.find? (fun g => g.nm == k) with | some g => (getA S k).map (fun a => { a with hv := a.hv + g.sum }) | none => getA T k
  | [], T, _, _, _, k => rfl
  | g :: r, T, hd, hs, h0, k => by
    rw [List.map_cons, List.nodup_cons] at hd
    have h1 := leg_same g (hs g List.mem_cons_self)
    have hg0 := h0 g List.mem_cons_self
    have ih := legs_get S r (legS T g) hd.2 (fun b hb => by
      rw [leg_other T g _ (fun e => hd.1 (List.mem_map.2 ⟨b, hb, e⟩))]
      exact hs b (List.mem_cons_of_mem _ hb)) (fun b hb => h0 b (List.mem_cons_of_mem _ hb)) k
    have e : legsS T (g :: r) = legsS (legS T g) r := by
      show (if legE T g = 0 then _ else _) = _
      rw [if_pos (by rw [h1]; exact hg0)]
    rw [e, ih, List.find?_cons]
    by_cases hk : g.nm = k
    · have hn : r.find? (fun g => g.nm == k) = none := by
        rw [List.find?_eq_none]
        intro b hb hbk
        exact hd.1 (List.mem_map.2 ⟨b, hb, by rw [hk]; simpa using hbk⟩)
      rw [hn]
      simp only [hk, beq_self_eq_true]
      obtain ⟨a, ha, _, _, _, he⟩ := leg_some (S := T) (g := g) (by rw [h1]; exact hg0)
      have haS : getA S k = some a := by rw [← hk, ← hs g List.mem_cons_self]; exact ha
      rw [he, haS]
      have hnm : a.name = k := by rw [← hk]; exact (getA_some ha).2
      have := getA_put_same T { a with hv := a.hv + g.sum }
      simp only [hnm] at this ⊢
      rw [this]
      simp only [Option.map_some, hnm]
    · have : (g.nm == k) = false := beq_eq_false_iff_ne.2 hk
      rw [this]
      simp only
      cases r.find? (fun g => g.nm == k) with
      | some b => rfl
      | none => exact leg_other T g k (fun h => hk h.symm)

theorem find_perm {L R : List Lg} (hp : L.Perm R) (hd : (L.map Lg.nm).Nodup) (k : List UInt8) : L.find? (fun g => g.nm == k) = R.find? (fun g => g.nm == k) := by
  have hdR : (R.map Lg.nm).Nodup := (hp.map Lg.nm).nodup_iff.1 hd
  have uniq : ∀ (M : List Lg), (M.map Lg.nm).Nodup → ∀ a ∈ M, ∀ b ∈ M, a.nm = b.nm → a = b := by
    intro M hM a ha b hb hab
    have h1 := List.pairwise_map.1 hM
    induction M with
    | nil => cases ha
    | cons c t ih =>
      obtain ⟨g1, g2⟩ := List.pairwise_cons.1 h1
      rw [List.map_cons, List.nodup_cons] at hM
      rcases List.mem_cons.1 ha with ea | ha2 <;> rcases List.mem_cons.1 hb with eb | hb2
      · rw [ea, eb]
      · exact absurd (by rw [← ea]; exact hab) (g1 b hb2)
      · exact absurd (by rw [← eb]; exact hab.symm) (g1 a ha2)
      · exact ih hM.2 ha2 hb2 g2
  cases hl : L.find? (fun g => g.nm == k) with
  | none =>
    symm
    rw [List.find?_eq_none] at hl ⊢
    exact fun x hx => hl x (hp.mem_iff.2 hx)
  | some a =>
    have ha := List.mem_of_find?_eq_some hl
    have hak : a.nm = k := by simpa using List.find?_some hl
    cases hr : R.find? (fun g => g.nm == k) with
    | none =>
      rw [List.find?_eq_none] at hr
      exact absurd (by simpa using hak) (hr a (hp.mem_iff.1 ha))
    | some b =>
      have hb := List.mem_of_find?_eq_some hr
      have hbk : b.nm = k := by simpa using List.find?_some hr
      rw [uniq L hd a ha b (hp.mem_iff.2 hb) (by rw [hak, hbk])]
theorem total_perm {l r : List Int} (h : l.Perm r) : total l = total r := by
  induction h with
  | nil => rfl
  | cons x _ ih => rw [total_cons, total_cons, ih]
  | swap x y l => simp only [total_cons]; omega
  | trans _ _ h1 h2 => rw [h1, h2]
theorem right_perm {L R : List Lg} (hp : L.Perm R) : rightB L = rightB R := by
  unfold rightB
  have h1 := hp.length_eq
  have h2 : L.all (fun g => nameB g.nm && decide (g.sum ≠ 0)) = R.all (fun g => nameB g.nm && decide (g.sum ≠ 0)) := by
    rw [Bool.eq_iff_iff, List.all_eq_true, List.all_eq_true]
    exact ⟨fun h x hx => h x (hp.mem_iff.2 hx), fun h x hx => h x (hp.mem_iff.1 hx)⟩
  have h3 : decide ((L.map Lg.nm).Nodup) = decide ((R.map Lg.nm).Nodup) := decide_eq_decide.2 (hp.map Lg.nm).nodup_iff
  rw [h1, h2, h3]
theorem make_perm {S : List Ac} (hI : Inv S) {L R : List Lg} (hp : L.Perm R) : (checkE S L = 0 ↔ checkE S R = 0) ∧ makeS S L = makeS S R := by
  have hr := right_perm hp
  have ht : total (sums L) = total (sums R) := total_perm (hp.map Lg.sum)
  have key : ∀ M : List Lg, checkE S M = 0 ↔ rightB M = true ∧ total (sums M) = 0 ∧ ∀ g ∈ M, legE S g = 0 := by
    intro M
    unfold checkE
    cases hb : rightB M with
    | false => simp
    | true =>
      have hd : (M.map Lg.nm).Nodup := by
        unfold rightB at hb
        simp only [Bool.and_eq_true, decide_eq_true_eq] at hb
        exact hb.2
      by_cases h0 : total (sums M) = 0
      · simp only [h0, Bool.true_eq_false, if_false, if_true, true_and]
        exact legs_each S M S hd (fun _ _ => rfl)
      · simp [h0]
  have hiff : checkE S L = 0 ↔ checkE S R = 0 := by
    rw [key L, key R, hr, ht]
    exact ⟨fun h => ⟨h.1, h.2.1, fun g hg => h.2.2 g (hp.mem_iff.2 hg)⟩, fun h => ⟨h.1, h.2.1, fun g hg => h.2.2 g (hp.mem_iff.1 hg)⟩⟩
  refine ⟨hiff, ?_⟩
  unfold makeS
  by_cases h0 : checkE S L = 0
  · rw [if_pos h0, if_pos (hiff.1 h0)]
    have hL := (key L).1 h0
    have hR := (key R).1 (hiff.1 h0)
    have nd : ∀ M : List Lg, rightB M = true → (M.map Lg.nm).Nodup := fun M hb => by
      unfold rightB at hb
      simp only [Bool.and_eq_true, decide_eq_true_eq] at hb
      exact hb.2
    refine rise_ext _ _ (inv_legs hI L).rise (inv_legs hI R).rise fun k => ?_
    rw [legs_get S L S (nd L hL.1) (fun _ _ => rfl) hL.2.2 k, legs_get S R S (nd R hR.1) (fun _ _ => rfl) hR.2.2 k, find_perm hp (nd L hL.1) k]
  · rw [if_neg h0, if_neg (fun h => h0 (hiff.2 h))]
end Go.Proofs.YtjbeaoabhhaiiaaGreat

namespace Go.Proofs.YtjbeaoabhhaiiaaGreat
open Go.RowKit Go.My Go.Maps
set_option linter.unusedSimpArgs false
set_option linter.unusedVariables false

theorem elL : El Tryz.prog 33 116 2 24 := ⟨Tryz.underlying33, by
  have h : (Tryz.prog.info? 116).map (fun i => (i.zero, i.size, i.bytes)) = some (some (.agg #[.string ⟨#[]⟩, .int .i64 0]), 2, 24) := by kernel_rfl
  obtain ⟨i, hi, hz, hs, hb⟩ := info_parts h
  exact ⟨i, _, hi, hz, hs, hb, rfl⟩, by omega⟩
/-- a leg's cells -/
def lgC (g : Lg) : List Value := [.string g.acct, .int .i64 g.sum]
def lgs (L : List Lg) : List Value := L.flatMap lgC
theorem lgs_length (L : List Lg) : (lgs L).length = L.length * 2 := by
  induction L with
  | nil => rfl
  | cons g r ih => show (lgC g ++ lgs r).length = _; rw [List.length_append, ih]; simp [lgC]; omega
theorem lgs_append (L R : List Lg) : lgs (L ++ R) = lgs L ++ lgs R := by unfold lgs; rw [List.flatMap_append]
theorem lgs_ones (L : List Lg) : ∀ y ∈ lgs L, y.oneCell' = true := by
  intro y hy
  unfold lgs at hy
  rw [List.mem_flatMap] at hy
  obtain ⟨a, _, ha⟩ := hy
  simp only [lgC, List.mem_cons, List.not_mem_nil, or_false] at ha
  rcases ha with rfl | rfl <;> rfl
theorem lgs_each : ∀ L : List Lg, (∀ g ∈ L, g.ok) → Each RdLg 2 (lgs L) L
  | [], _ => ⟨rfl, fun i x hx => by simp at hx⟩
  | g :: r, h => by
    obtain ⟨h1, h2⟩ := lgs_each r fun x hx => h x (List.mem_cons_of_mem _ hx)
    refine ⟨lgs_length _, fun i x hx => ?_⟩
    cases i with
    | zero =>
      simp only [List.getElem?_cons_zero, Option.some.injEq] at hx
      subst hx
      exact ⟨rfl, h g List.mem_cons_self⟩
    | succ i =>
      rw [List.getElem?_cons_succ] at hx
      have := h2 i x hx
      show RdLg (((lgC g ++ lgs r).drop ((i + 1) * 2)).take 2) x
      rw [List.drop_append, List.drop_of_length_le (by simp [lgC]; omega)]
      simpa [lgC, show (i + 1) * 2 - 2 = i * 2 by omega] using this
/-- cells of legs are these -/
theorem each_lgs : ∀ (L : List Lg) (cells : List Value), Each RdLg 2 cells L → cells = lgs L
  | [], cells, h => by
    have := h.1
    simp at this
    rw [this]
    rfl
  | g :: r, cells, h => by
    have h0 := (h.2 0 g rfl).1
    rw [Nat.zero_mul, List.drop_zero] at h0
    have hr := each_lgs r (cells.drop 2) ⟨by rw [List.length_drop, h.1, List.length_cons]; omega, fun i x hx => by
      have := h.2 (i + 1) x (by rw [List.getElem?_cons_succ]; exact hx)
      rw [List.drop_drop]
      rwa [show 2 + i * 2 = (i + 1) * 2 by omega]⟩
    show cells = lgC g ++ lgs r
    have e := List.take_append_drop 2 cells
    rw [h0, hr] at e
    exact e.symm

end Go.Proofs.YtjbeaoabhhaiiaaGreat

namespace Go.Proofs.YtjbeaoabhhaiiaaGreat
open Go.RowKit Go.My Go.Maps
set_option linter.unusedSimpArgs false
set_option linter.unusedVariables false

theorem few_legs {w : World} {B : Option Addr} {d : Nat} {cells2 : List Value} {L0 : List Lg} (hr2 : Rd w (Lt w.heap.size) 2 B L0.length cells2) (hd : L0.length ≤ d) (hE2 : Each RdLg 2 cells2 L0) :
    ∃ L : List Lg, L.length = min L0.length 8 ∧ L.length ≤ 8 ∧ L.length ≤ d ∧ Rd w (Lt w.heap.size) 2 B L.length (lgs L) ∧ Each RdLg 2 (lgs L) L ∧ (∀ g ∈ L, g.ok) := by
  have ho : ∀ g ∈ L0.take 8, g.ok := fun g hg => each_ok hE2 g (List.mem_of_mem_take hg)
  refine ⟨L0.take 8, by rw [List.length_take]; omega, by rw [List.length_take]; omega, by rw [List.length_take]; omega, ?_, lgs_each _ ho, ho⟩
  have h1 := hr2.take (k := (L0.take 8).length) (by rw [List.length_take]; omega)
  have h2 : cells2.take ((L0.take 8).length * 2) = lgs (L0.take 8) := by
    rw [each_lgs L0 cells2 hE2]
    have e : lgs L0 = lgs (L0.take 8) ++ lgs (L0.drop 8) := by rw [← lgs_append, List.take_append_drop]
    rw [e]
    exact List.take_left' (lgs_length _)
  rwa [h2] at h1
end Go.Proofs.YtjbeaoabhhaiiaaGreat

namespace Go.Proofs.YtjbeaoabhhaiiaaGreat
open Go.RowKit Go.My Go.Maps
set_option linter.unusedSimpArgs false
set_option linter.unusedVariables false

theorem total_set : ∀ (S : List Ac) (k : Nat) (hk : k < S.length) (b : Ac), total (hvs (S.set k b)) = total (hvs S) - S[k].hv + b.hv
  | c :: r, 0, _, b => by
    show total (b.hv :: hvs r) = total (c.hv :: hvs r) - c.hv + b.hv
    rw [total_cons, total_cons]; omega
  | c :: r, k + 1, hk, b => by
    have ih := total_set r k (by simpa using hk) b
    have hk' : k < r.length := by simpa using hk
    show total (c.hv :: hvs (r.set k b)) = total (c.hv :: hvs r) - r[k].hv + b.hv
    rw [total_cons, total_cons, ih]; omega
theorem total_put {S : List Ac} (hr : Rise S) {a b : Ac} {nm : List UInt8} (hg : getA S nm = some a) (hb : b.name = a.name) : total (hvs (putA b S)) = total (hvs S) - a.hv + b.hv := by
  obtain ⟨k, hk, rfl⟩ := List.getElem_of_mem (getA_some hg).1
  rw [put_set S k hk b hr hb.symm, total_set S k hk b]
theorem legs_total : ∀ (L : List Lg) {T : List Ac}, Inv T → legsE T L = 0 → total (hvs (legsS T L)) = total (hvs T) + total (sums L)
  | [], T, _, _ => by simp [legsS, sums, total_nil]
  | g :: r, T, hI, h => by
    unfold legsE at h
    by_cases h0 : legE T g = 0
    · rw [if_pos h0] at h
      have ih := legs_total r (inv_leg hI g) h
      obtain ⟨a, ha, _, _, _, he⟩ := leg_some h0
      have e : legsS T (g :: r) = legsS (legS T g) r := by
        show (if legE T g = 0 then _ else _) = _
        rw [if_pos h0]
      rw [e, ih, he, total_put (b := { a with hv := a.hv + g.sum }) hI.rise ha rfl]
      show _ = _ + total (g.sum :: sums r)
      rw [total_cons]
      simp only
      omega
    · rw [if_neg h0] at h
      exact absurd h h0

/-- what legs add to an account -/
def byOf (L : List Lg) (nm : List UInt8) : Int := total (L.map fun g => if g.nm = nm then g.sum else 0)
theorem byOf_take {L : List Lg} {k : Nat} (hk : k < L.length) (nm : List UInt8) : byOf (L.take (k + 1)) nm = byOf (L.take k) nm + if L[k].nm = nm then L[k].sum else 0 := by
  unfold byOf
  rw [List.take_succ_eq_append_getElem hk, List.map_append, total_append]
  simp [total_cons, total_nil]
theorem byOf_none : ∀ (L : List Lg) (nm : List UInt8), (∀ g ∈ L, g.nm ≠ nm) → byOf L nm = 0
  | [], _, _ => rfl
  | g :: r, nm, h => by
    have ih := byOf_none r nm fun x hx => h x (List.mem_cons_of_mem _ hx)
    unfold byOf at ih ⊢
    rw [List.map_cons, total_cons, ih, if_neg (h g List.mem_cons_self)]
    rfl
theorem byOf_find : ∀ (L : List Lg) (nm : List UInt8), (L.map Lg.nm).Nodup → byOf L nm = match L.find? (fun g => g.nm == nm) with | some g => g.sum | none => 0
  | [], _, _ => rfl
  | g :: r, nm, hd => by
    rw [List.map_cons, List.nodup_cons] at hd
    rw [List.find?_cons]
    by_cases h : g.nm = nm
    · have h0 := byOf_none r nm fun x hx e => hd.1 (List.mem_map.2 ⟨x, hx, by rw [e, h]⟩)
      unfold byOf at h0 ⊢
      rw [List.map_cons, total_cons, h0, if_pos h, Int.add_zero]
      simp [h]
    · have ih := byOf_find r nm hd.2
      rw [beq_eq_false_iff_ne.2 h]
      simp only
      rw [← ih]
      unfold byOf
      rw [List.map_cons, total_cons, if_neg h, Int.zero_add]
/-- an account behind the legs -/
def updA (L : List Lg) (a : Ac) : Ac := { a with hv := a.hv + byOf L a.name }
theorem getA_map (f : Ac → Ac) (hf : ∀ a, (f a).name = a.name) : ∀ (S : List Ac) (k : List UInt8), getA (S.map f) k = (getA S k).map f
  | [], _ => rfl
  | a :: r, k => by
    rw [List.map_cons, getA_cons, getA_cons, hf, getA_map f hf r k]
    split <;> rfl
theorem rise_map (f : Ac → Ac) (hf : ∀ a, (f a).name = a.name) {S : List Ac} (h : Rise S) : Rise (S.map f) :=
  List.pairwise_map.2 (h.imp fun {a b} hab => by unfold Ac.key at hab ⊢; rw [hf, hf]; exact hab)
theorem right_nodup {L : List Lg} (h : rightB L = true) : (L.map Lg.nm).Nodup := by
  unfold rightB at h
  simp only [Bool.and_eq_true, decide_eq_true_eq] at h
  exact h.2
theorem check_zero {S : List Ac} {L : List Lg} (h : checkE S L = 0) : rightB L = true ∧ total (sums L) = 0 ∧ legsE S L = 0 := by
  unfold checkE at h
  cases hb : rightB L with
  | false => rw [hb] at h; simp at h
  | true =>
    rw [hb] at h
    simp only [Bool.true_eq_false, if_false] at h
    split at h
    · rename_i h0; exact ⟨rfl, h0, h⟩
    · cases h
theorem legs_map {S : List Ac} (hI : Inv S) {L : List Lg} (hd : (L.map Lg.nm).Nodup) (h : legsE S L = 0) : legsS S L = S.map (updA L) := by
  have h2 := (legs_each S L S hd (fun _ _ => rfl)).1 h
  refine rise_ext _ _ (inv_legs hI L).rise (rise_map (updA L) (fun _ => rfl) hI.rise) fun k => ?_
  rw [legs_get S L S hd (fun _ _ => rfl) h2 k, getA_map (updA L) (fun _ => rfl)]
  have hb := byOf_find L k hd
  cases hf : L.find? (fun g => g.nm == k) with
  | some g =>
    rw [hf] at hb
    simp only at hb ⊢
    cases hq : getA S k with
    | none => rfl
    | some a =>
      have hn := (getA_some hq).2
      simp only [Option.map_some, updA, hn, hb]
  | none =>
    rw [hf] at hb
    simp only at hb ⊢
    cases hq : getA S k with
    | none => rfl
    | some a =>
      have hn := (getA_some hq).2
      simp only [Option.map_some, updA, hn, hb, Int.add_zero]
      rw [← hn]
theorem make_weighs {S : List Ac} (hI : Inv S) {L : List Lg} (h : checkE S L = 0) : makeS S L = S.map (updA L) ∧ total (hvs (makeS S L)) = total (hvs S) := by
  obtain ⟨h1, h2, h3⟩ := check_zero h
  unfold makeS
  rw [if_pos h]
  exact ⟨legs_map hI (right_nodup h1) h3, by rw [legs_total L hI h3, h2, Int.add_zero]⟩
theorem make_err {S : List Ac} {L : List Lg} (h : checkE S L ≠ 0) : makeS S L = S := by
  unfold makeS
  rw [if_neg h]
theorem two_inj {a b c d : Int} (h : #[Value.int .i64 a, Value.int .i64 b] = #[Value.int .i64 c, Value.int .i64 d]) : a = c ∧ b = d := by
  injection h with h
  injection h with h1 h2
  injection h2 with h2
  injection h1 with _ h1
  injection h2 with _ h2
  exact ⟨h1, h2⟩
end Go.Proofs.YtjbeaoabhhaiiaaGreat

namespace Go.Proofs.YtjbeaoabhhaiiaaGreat
open Go.RowKit Go.My Go.Maps
set_option linter.unusedSimpArgs false
set_option linter.unusedVariables false
attribute [local go_sem ↓] Go.wp_at_zero Go.wp_at_succ

theorem nodup_snoc {L : List Lg} {i : Nat} (hi : i < L.length) (h : ((L.take i).map Lg.nm).Nodup) (hn : ∀ x ∈ L.take i, x.nm ≠ L[i].nm) : ((L.take (i + 1)).map Lg.nm).Nodup := by
  rw [List.take_succ_eq_append_getElem hi, List.map_append, List.nodup_append]
  refine ⟨h, by simp, fun a ha b hb => ?_⟩
  obtain ⟨x, hx, rfl⟩ := List.mem_map.1 ha
  simp only [List.map_cons, List.map_nil, List.mem_singleton] at hb
  rw [hb]
  exact hn x hx
theorem not_nodup {L : List Lg} {i k : Nat} (hi : i < L.length) (hk : k < i) (h : L[k].nm = L[i].nm) : rightB L = false := by
  cases hb : rightB L with
  | false => rfl
  | true =>
    have h1 := right_nodup hb
    have h2 := List.pairwise_iff_getElem.1 h1 k i (by simp; omega) (by simpa using hi) hk
    simp [h] at h2
theorem right_end {L : List Lg} (h1 : L.all okLg = true) (h2 : (L.map Lg.nm).Nodup) : rightB L = (decide (2 ≤ L.length) && decide (L.length ≤ 6)) := by
  unfold rightB
  have e : L.all (fun g => nameB g.nm && decide (g.sum ≠ 0)) = true := h1
  rw [e, decide_eq_true h2]
  simp

def RrRel (w : World) (L : List Lg) (iv : Value) (wr : World) : Prop := ∃ i j : Nat, i ≤ L.length ∧ iv = .int .i64 i ∧ (L.take i).all okLg = true ∧ ((L.take i).map Lg.nm).Nodup ∧ wr = w.drewN j
def RkRel (w : World) (L : List Lg) (i : Nat) (nm : List UInt8) (kv : Value) (wr : World) : Prop := ∃ k j : Nat, k ≤ i ∧ kv = .int .i64 k ∧ (∀ x ∈ L.take k, x.nm ≠ nm) ∧ wr = w.drewN j

set_option maxRecDepth 100000 in
set_option maxHeartbeats 2000000 in
theorem refright_any (F : Nat → Prop) (A : Option Addr) (c : Nat) (cells : List Value) (L : List Lg) (w : World) (hr : Rd w F 2 A L.length cells) (hE : Each RdLg 2 cells L) (hL : L.length ≤ 100) :
    Calls Tryz.prog 123 #[.slice A L.length c] w fun e w' => e = .returned (.bool (rightB L)) ∧ Fr No w w' := by
  have HR := Lib.hid hr
  have HE := Lib.hid hE
  clear hr hE
  go_enter Tryz.func123, Tryz.ntmps123
  go_wp2_with fail
  go_loopw [3] (fun iv wr => RrRel w L iv wr) (fun iv _ => L.length - (intOf iv).toNat)
  case atStart => exact ⟨0, 0, Nat.zero_le _, rfl, rfl, List.nodup_nil, rfl⟩
  case round =>
    obtain ⟨i, j0, hi, rfl, hall, hnd, rfl⟩ := hrel
    have HALL := Lib.hid hall
    have HND := Lib.hid hnd
    clear hall hnd
    by_cases hil : i < L.length
    · obtain ⟨ad, rfl, _, hok, q0, q1⟩ := lg_at HR.out HE.out i hil hil
      have HBAD : Hid (okLg L[i] = false → rightB L = false) := rightB_bad hil
      have HNX : Hid (okLg L[i] = true → (L.take (i + 1)).all okLg = true) := fun h => by
        rw [List.take_succ_eq_append_getElem hil, List.all_append, HALL.out]
        simp [h]
      have HSN : Hid ((∀ x ∈ L.take i, x.nm ≠ L[i].nm) → ((L.take (i + 1)).map Lg.nm).Nodup) := nodup_snoc hil HND.out
      have HNN : Hid (∀ k (hk : k < i), L[k].nm = L[i].nm → rightB L = false) := fun k hk h => not_nodup hil hk h
      generalize hg : L[i] = g at *
      obtain ⟨nm, sm⟩ := g
      unfold Lg.ok at hok
      simp only at q0 q1 hok
      obtain ⟨lo, hlo, hlo2⟩ : ∃ lo : List UInt8, nm = ⟨lo.toArray⟩ ∧ nm.data.toList = lo := ⟨nm.data.toList, by simp, rfl⟩
      have hN := refname_any nm (w.drewN j0) hok.1
      unfold Lg.nm at HSN HNN
      unfold okLg Lg.nm at HBAD HNX
      simp only at HSN HNN HBAD HNX
      rw [hlo2] at hN HSN HNN HBAD HNX
      subst hlo
      have HN := Lib.hid hN
      clear hN hok hlo2 hg
      cases hnb : nameB lo with
      | false =>
        rw [hnb] at HN HBAD
        have HB : Hid (rightB L = false) := HBAD.out rfl
        clear hnb
        go_wp2_with fail
        refine HN.out.mono ?_
        rintro e w3 ⟨rfl, rfl⟩
        go_wp2
        go_ret
        exact ⟨by rw [HB.out]; rfl, (Fr.refl _ _).drewN _⟩
      | true =>
        rw [hnb] at HN HBAD HNX
        clear hnb
        by_cases hs0 : sm = 0
        · subst hs0
          have HB : Hid (rightB L = false) := HBAD.out rfl
          go_wp2_with fail
          refine HN.out.mono ?_
          rintro e w3 ⟨rfl, rfl⟩
          go_wp2
          go_ret
          exact ⟨by rw [HB.out]; rfl, (Fr.refl _ _).drewN _⟩
        · have hz : (sm == 0) = false := beq_eq_false_iff_ne.2 hs0
          have HA : Hid ((L.take (i + 1)).all okLg = true) := HNX.out (by simp [hs0])
          clear hs0 HBAD HNX
          go_wp2_with fail
          refine HN.out.mono ?_
          rintro e w3 ⟨rfl, rfl⟩
          go_wp2_with fail
          go_loopw [4] (fun kv ws => RkRel w L i lo kv ws) (fun kv _ => i - (intOf kv).toNat)
          case atStart => exact ⟨0, j0, Nat.zero_le _, rfl, fun x hx => by simp at hx, rfl⟩
          case round =>
            obtain ⟨k, j1, hk, rfl, hno, rfl⟩ := hrel
            by_cases hki : k < i
            · obtain ⟨bd, hbd, _, hok2, p0, p1⟩ := lg_at HR.out HE.out k (by omega) (by omega)
              injection hbd with hbd
              subst hbd
              have HTK : Hid (L.take (k + 1) = L.take k ++ [L[k]]) := List.take_succ_eq_append_getElem (by omega)
              have HNK := Lib.hid (HNN.out k hki)
              have HNO := Lib.hid hno
              generalize L[k] = h at *
              obtain ⟨nk, sk⟩ := h
              simp only at p0 p1
              obtain ⟨lk, hlk, hlk2⟩ : ∃ lo : List UInt8, nk = ⟨lo.toArray⟩ ∧ nk.data.toList = lo := ⟨nk.data.toList, by simp, rfl⟩
              simp only [hlk2] at HNK
              subst hlk
              clear hno hok2 hlk2 HN HNN
              by_cases hn : lk = lo
              · subst hn
                have HB : Hid (rightB L = false) := HNK.out rfl
                go_wp2
                go_quiet (fail)
                go_wp2
                go_ret
                exact ⟨by rw [HB.out]; rfl, ((Fr.refl _ _).drewN _).drewN _⟩
              · have hz1 : (lk == lo) = false := beq_eq_false_iff_ne.2 hn
                have hz2 : ((⟨lk.toArray⟩ : ByteArray).toList == (⟨lo.toArray⟩ : ByteArray).toList) = false := by rw [ByteArray.toList_eq, ByteArray.toList_eq]; exact hz1
                have HNE := Lib.hid hn
                clear hn
                go_wp2
                go_quiet (fail)
                go_wp2
                go_roundw
                case rel =>
                  refine ⟨k + 1, _, by omega, by go_num, fun x hx => ?_, rfl⟩
                  rw [HTK.out, List.mem_append, List.mem_singleton] at hx
                  rcases hx with hx | hx
                  · exact HNO.out x hx
                  · rw [hx]; exact HNE.out
                case measure => simp [intOf]; omega
            · obtain rfl : k = i := by omega
              have HD : Hid (((L.take (k + 1)).map Lg.nm).Nodup) := HSN.out hno
              clear hno
              go_wp2
              go_roundw
              case rel => exact ⟨k + 1, _, by omega, by go_num, HA.out, HD.out, rfl⟩
              case measure => simp [intOf]; omega
    · obtain rfl : i = L.length := by omega
      have HEN : Hid (rightB L = (decide (2 ≤ L.length) && decide (L.length ≤ 6))) := by
        have h1 := HALL.out
        have h2 := HND.out
        rw [List.take_length] at h1 h2
        exact right_end h1 h2
      by_cases h2 : 2 ≤ L.length
      · have h2' : ¬ (L.length : Int) < 2 := by omega
        by_cases h6 : L.length ≤ 6
        · have h6' : decide ((L.length : Int) ≤ 6) = true := decide_eq_true (by omega)
          have HB : Hid (rightB L = true) := by show _ = _; rw [HEN.out, decide_eq_true h2, decide_eq_true h6]; rfl
          go_wp2
          go_ret
          exact ⟨by rw [HB.out]; rfl, (Fr.refl _ _).drewN _⟩
        · have h6' : decide ((L.length : Int) ≤ 6) = false := decide_eq_false (by omega)
          have HB : Hid (rightB L = false) := by show _ = _; rw [HEN.out, decide_eq_false h6]; simp
          go_wp2
          go_ret
          exact ⟨by rw [HB.out]; rfl, (Fr.refl _ _).drewN _⟩
      · have h2' : (L.length : Int) < 2 := by omega
        have HB : Hid (rightB L = false) := by show _ = _; rw [HEN.out, decide_eq_false h2]; rfl
        go_wp2
        go_ret
        exact ⟨by rw [HB.out]; rfl, (Fr.refl _ _).drewN _⟩
end Go.Proofs.YtjbeaoabhhaiiaaGreat

namespace Go.Proofs.YtjbeaoabhhaiiaaGreat
open Go.RowKit Go.My Go.Maps
set_option linter.unusedSimpArgs false
set_option linter.unusedVariables false
attribute [local go_sem ↓] Go.wp_at_zero Go.wp_at_succ

theorem first_at (S : List Ac) : ∀ (L : List Lg) (i : Nat) (hi : i < L.length), (L.map Lg.nm).Nodup → (∀ g ∈ L.take i, legE S g = 0) → legE S L[i] ≠ 0 → legsE S L = legE S L[i] := by
  intro L i hi hd h0 hne
  rw [legs_first S L S hd (fun _ _ => rfl)]
  have hsp : L = L.take i ++ L[i] :: L.drop (i + 1) := by simp
  have hf : L.find? (fun g => decide (legE S g ≠ 0)) = some L[i] := by
    rw [List.find?_eq_some_iff_append]
    exact ⟨by simp [hne], L.take i, L.drop (i + 1), hsp, fun a ha => by simp [h0 a ha]⟩
  rw [hf]
  rfl
theorem all_zero (S : List Ac) {L : List Lg} (hd : (L.map Lg.nm).Nodup) (h0 : ∀ g ∈ L, legE S g = 0) : legsE S L = 0 := (legs_each S L S hd (fun _ _ => rfl)).2 h0
theorem take_zero_next {S : List Ac} {L : List Lg} {i : Nat} (hi : i < L.length) (h : ∀ g ∈ L.take i, legE S g = 0) (h0 : legE S L[i] = 0) : ∀ g ∈ L.take (i + 1), legE S g = 0 := fun g hg => by
  rw [List.take_succ_eq_append_getElem hi, List.mem_append, List.mem_singleton] at hg
  rcases hg with hg | rfl
  · exact h g hg
  · exact h0
theorem legE_none {S : List Ac} {g : Lg} (h : getA S g.nm = none) : legE S g = 6 := by unfold legE; rw [h]; rfl
theorem legE_some {S : List Ac} {g : Lg} {a : Ac} (h : getA S g.nm = some a) : legE S g = if g.sum = -9223372036854775808 then 2 else giveE a (-g.sum) := by
  unfold legE actE
  rw [h]
  rfl
def CkRel (w : World) (S : List Ac) (L : List Lg) (iv : Value) (wr : World) : Prop := ∃ i : Nat, i ≤ L.length ∧ iv = .int .i64 i ∧ (∀ g ∈ L.take i, legE S g = 0) ∧ Fr No w wr

set_option maxRecDepth 100000 in
set_option maxHeartbeats 4000000 in
theorem refcheck_any (q : Nat) (S : List Ac) (F : Nat → Prop) (A : Option Addr) (c : Nat) (cells : List Value) (L : List Lg) (w : World) (h : RfS w q S) (hI : Inv S) (hr : Rd w F 2 A L.length cells) (hE : Each RdLg 2 cells L) (hL : L.length ≤ 100) :
    Calls Tryz.prog 79 #[.pointer (some ⟨q, 0, none⟩), .slice A L.length c] w fun e w' => e = .returned (.int .i64 (checkE S L)) ∧ Fr No w w' := by
  have HR := Lib.hid hr
  have HE := Lib.hid hE
  have HH := Lib.hid h
  have HI := Lib.hid hI
  have HRT := Lib.hid (refright_any F A c cells L w hr hE hL)
  have HNB : Hid (∀ (W : World) cs, (W.alloc (.cells cs 2)).heap[W.heap.size]? = some (.cells cs 2 (0, 0))) := fun W cs => heap_alloc_new W _
  clear hr hE h hI
  go_enter Tryz.func79, Tryz.ntmps79
  go_wp2_with fail
  refine HRT.out.mono ?_
  rintro e w1 ⟨rfl, hf1⟩
  have HF1 := Lib.hid hf1
  clear hf1
  cases hrb : rightB L with
  | false =>
    have HN : Hid (checkE S L = 1) := by show _ = _; unfold checkE; rw [if_pos hrb]
    clear hrb
    go_wp2
    go_ret
    exact ⟨by rw [HN.out]; rfl, HF1.out⟩
  | true =>
    have HRB := Lib.hid hrb
    clear hrb
    go_wp2_with fail
    go_loopw [5, 6] (fun lv iv wr => BalRel w L lv iv wr) (fun _ iv _ => L.length - (intOf iv).toNat)
    case atStart => exact ⟨0, Nat.zero_le _, rfl, Own.nil _ _ _, HF1.out, .inl rfl⟩
    case round =>
      obtain ⟨k, hk, rfl, hown, hfr, hnew⟩ := hrel
      by_cases hlt : k < L.length
      · obtain ⟨ad, rfl, _, _, q0, q1⟩ := lg_at (HR.out.fr (by omega) hfr fun _ _ _ h => h) HE.out k hlt hlt
        have E : Hid (is_ (sums (L.take (k + 1))) = is_ (sums (L.take k)) ++ [.int .i64 L[k].sum]) := by
          show _ = _
          rw [sums_take hlt, is_append]
          rfl
        have hX : Hid (k + 1 ≤ maxLen ∧ (k + 1) * 8 ≤ 140737488355328) := by
          refine ⟨?_, ?_⟩ <;> (try simp only [maxLen]) <;> omega
        generalize L[k] = g at *
        obtain ⟨nm, sm⟩ := g
        simp only at q0 q1 E
        have HOWN := Lib.hid hown
        have HFR := Lib.hid hfr
        have HNEW := Lib.hid hnew
        clear hown hfr hnew
        go_wp2_with (at_builtin; refine wpList_app _ rfl (.tmp 25) (.tmp 31) 184 184 rfl elI (HOWN.out.alloc _) rfl (Src.of_new wr.heap.size (HNB.out _ _) Tryz.underlying184 rfl (by simp [Value.oneCell'])) rfl hX.out.1 hX.out.2 ?_; intro v1 w3 hown3 hfr3 hnew3)
        go_roundw
        case rel =>
          refine ⟨k + 1, by omega, by go_num, ?_, ?_, ?_⟩
          · rw [E.out]
            exact hown3
          · exact fr_no (HFR.out.alloc _) HNEW.out hfr3
          · exact HNEW.out.trans (Newer.of hnew3) (by have := HFR.out.size; simp; omega)
        case measure => simp [intOf]; omega
      · obtain rfl : k = L.length := by omega
        rw [List.take_length] at hown
        obtain ⟨A4, c4, rfl, hl4, hc4⟩ := hown.form
        have h4 := reftotal_any A4 c4 (sums L) wr (by rw [sums_length]; exact (hown.rd.lt (by omega)).more fun _ h => h.2) (sums_in (each_ok HE.out)) (by rw [sums_length]; omega)
        rw [sums_length] at h4
        have HF := Lib.hid hfr
        clear hown hfr hnew
        have hmain : ∀ W, Fr No w W → Fr No w W := fun _ h => h
        by_cases hT : total (sums L) = 0
        · rw [two64_in (by rw [hT]; unfold In64; omega), hT] at h4
          have H4 := Lib.hid h4
          have HN : Hid (checkE S L = legsE S L) := by show _ = _; unfold checkE; rw [if_neg (by rw [HRB.out]; decide), if_pos hT]
          have HND := Lib.hid (right_nodup HRB.out)
          clear h4 hT hmain
          go_wp2_with fail
          refine H4.out.mono ?_
          rintro e w5 ⟨rfl, hb5⟩
          have HF5 := Lib.hid (HF.out.trans (Fr.of_below hb5 _))
          clear hb5
          go_wp2_with fail
          go_loopw [9] (fun iv ws => CkRel w S L iv ws) (fun iv _ => L.length - (intOf iv).toNat)
          case atStart => exact ⟨0, Nat.zero_le _, rfl, fun g hg => by simp at hg, HF5.out⟩
          case round =>
            obtain ⟨i, hi, rfl, hz, hfi⟩ := hrel
            by_cases hil : i < L.length
            · obtain ⟨ad, rfl, _, hok, q0, q1⟩ := lg_at (HR.out.fr (by omega) hfi fun _ _ _ h => h) HE.out i hil hil
              have HAT : Hid (∀ W, Fr No wr W → Fr No wr W ∧ W.cell? (ad.add (i * 2)) = some (.string L[i].acct) ∧ W.cell? ⟨(ad.add (i * 2)).block, (ad.add (i * 2)).off + 1, none⟩ = some (.int .i64 L[i].sum)) := fun W hW => ⟨hW, hW.cell_some q0 (fun h => h), hW.cell_some q1 (fun h => h)⟩
              have HER : Hid (∀ n, legE S L[i] = n → n ≠ 0 → ∀ W, Fr No w W → checkE S L = n ∧ Fr No w W) := fun n hn h0 W hW => ⟨by rw [HN.out, first_at S L i hil HND.out hz (by rw [hn]; exact h0), hn], hW⟩
              have HNX : Hid (legE S L[i] = 0 → ∀ g ∈ L.take (i + 1), legE S g = 0) := fun h0 => take_zero_next hil hz h0
              generalize L[i] = g at *
              obtain ⟨nm, sm⟩ := g
              unfold Lg.ok at hok
              simp only at q0 q1 hok HAT
              have HGT := Lib.hid (refget_any q S nm wr (HH.out.no hfi) HI.out)
              have HOK := Lib.hid hok
              have HFI := Lib.hid hfi
              have hsr : w.heap.size ≤ wr.heap.size := hfi.size
              clear hfi hz
              cases hq : getA S nm.data.toList with
              | none =>
                have HE6 := Lib.hid (HER.out 6 (legE_none hq) (by omega))
                have hG := HGT.out
                unfold GotR getV at hG
                rw [hq] at hG
                have HG := Lib.hid hG
                clear hG hq HGT HER HNX HOK hok
                go_wp2_with fail
                refine HG.out.mono ?_
                rintro e w6 ⟨rfl, hf6⟩
                have HF6 := Lib.hid (HFI.out.trans hf6)
                clear hf6
                unfold noA Ac.val
                go_wp2
                go_ret
                exact ⟨by rw [(HE6.out w (Fr.refl _ _)).1]; rfl, HF6.out.alloc _⟩
              | some a =>
                have hoka := HI.out.ok a (getA_some hq).1
                have HLE : Hid (legE S ⟨nm, sm⟩ = if sm = -9223372036854775808 then 2 else giveE a (-sm)) := legE_some hq
                have hG := HGT.out
                unfold GotR getV at hG
                rw [hq] at hG
                obtain ⟨na, va, sa, la⟩ := a
                simp only [Option.getD_some, Option.isSome_some, if_true] at hG
                unfold Ac.val at hG
                simp only at hG
                have HG := Lib.hid hG
                have HOA := Lib.hid hoka
                unfold OkA at hoka
                simp only at hoka
                obtain ⟨ho1, ho2, ho3⟩ := hoka
                have HO1 := Lib.hid ho1
                clear hG hq HGT ho2 ho3 hok ho1
                go_wp2_with fail
                refine HG.out.mono ?_
                rintro e w6 ⟨rfl, hf6⟩
                have hF6 : Fr No wr (w6.alloc (.cells #[.string ⟨na.toArray⟩, .int .i64 va, .int .i64 sa, .int .i64 la] 80)) := hf6.alloc _
                have hbx := Blk.new w6 80 #[.string ⟨na.toArray⟩, .int .i64 va, .int .i64 sa, .int .i64 la]
                obtain ⟨_, y0, y1⟩ := HAT.out _ hF6
                have HBX := Lib.hid hbx
                have HF6 := Lib.hid hF6
                have HLS := Lib.hid (refless_any 0 sm (w6.alloc (.cells #[.string ⟨na.toArray⟩, .int .i64 va, .int .i64 sa, .int .i64 la] 80)) (by unfold In64; omega) HOK.out.2)
                clear hf6 hF6 hbx q0 q1
                go_upto_region 17 with (fail)
                generalize (w6.alloc (.cells #[.string ⟨na.toArray⟩, .int .i64 va, .int .i64 sa, .int .i64 la] 80)) = w7 at *
                generalize w6.heap.size = bo at *
                obtain ⟨tl, te, htl⟩ : ∃ tl te, two64 (0 - sm) = .tuple #[.int .i64 tl, .int .i64 te] := ⟨_, _, rfl⟩
                have HTL := Lib.hid htl
                rw [htl] at HLS
                clear htl
                go_wp2_with fail
                refine HLS.out.mono ?_
                rintro e w8 ⟨rfl, hb8⟩
                have hf8 : Fr No w7 w8 := Fr.of_below hb8 _
                have HF8 := Lib.hid hf8
                have hbx8 := HBX.out.fr hf8 (fun h => h)
                have HBX8 := Lib.hid hbx8
                obtain ⟨_, z0, z1⟩ := HAT.out _ (HF6.out.trans hf8)
                have x1 := hbx8.cell 1
                simp only [List.getElem?_toArray, List.getElem?_cons_zero, List.getElem?_cons_succ] at x1
                have z1' : w8.drew.cell? ⟨(ad.add (i * 2)).block, (ad.add (i * 2)).off + 1, none⟩ = some (.int .i64 sm) := z1
                have x1' : w8.drew.cell? ⟨bo, 1, none⟩ = some (.int .i64 va) := x1
                obtain ⟨ta, tb, hta⟩ : ∃ tl te, two64 (va + sm) = .tuple #[.int .i64 tl, .int .i64 te] := ⟨_, _, rfl⟩
                have hAD := refadd_any va sm w8.drew HO1.out HOK.out.2
                rw [hta] at hAD
                have HAD := Lib.hid hAD
                have HTA := Lib.hid hta
                clear hb8 hf8 hbx8 y0 y1 hta hAD HLS HG
                go_upto_region 18 with (fail)
                go_cut [14, 15] (fun a14 a15 wx => (a14 = .int .i64 ta ∧ a15 = .int .i64 tb) ∧ Fr No w8 wx)
                case first =>
                  go_wp2
                  go_region_with (go_at_call 126; (with_reducible refine HAD.out.mono ?_); rintro e w9 ⟨rfl, hb9⟩; have hf9 : Fr No w8 w9 := Fr.trans ((Fr.refl No w8).drew) (Fr.of_below hb9 _))
                  all_goals
                    go_wp2
                    go_meet
                    exact ⟨⟨rfl, rfl⟩, by assumption⟩
                case rest =>
                  obtain ⟨⟨rfl, rfl⟩, hf9⟩ := hcut
                  have HF9 := Lib.hid (HFI.out.trans (HF6.out.trans (HF8.out.trans hf9)))
                  have HFX := Lib.hid ((fun W (_ : Fr No w8 W) => fun (x : Int) (hx : 0 < x ∧ x ≤ 9223372036854775807) => reffree_any ⟨na, va, sa, la⟩ x W HOA.out hx) _ hf9)
                  have hbx9 := HBX8.out.fr hf9 (fun h => h)
                  have x0 := hbx9.cell 0
                  have x1 := hbx9.cell 1
                  have x2 := hbx9.cell 2
                  have x3 := hbx9.cell 3
                  simp only [List.getElem?_toArray, List.getElem?_cons_zero, List.getElem?_cons_succ] at x0 x1 x2 x3
                  clear hf9 hbx9 z0 z1 z1' x1' HAD
                  have h2 : -9223372036854775808 ≤ sm ∧ sm ≤ 9223372036854775807 := HOK.out.2
                  have HRET : Hid (∀ n W, legE S ⟨nm, sm⟩ = n → n ≠ 0 → Fr No w W → checkE S L = n ∧ Fr No w W) := fun n W hn h0 hW => HER.out n hn h0 W hW
                  by_cases hmin : sm = -9223372036854775808
                  · have e1 := HTL.out
                    rw [two64_out (by unfold In64; omega)] at e1
                    injection e1 with e1
                    obtain ⟨rfl, rfl⟩ := two_inj e1
                    have HEND := Lib.hid (HRET.out 2 _ (by rw [HLE.out, if_pos hmin]) (by omega) HF9.out)
                    clear hmin h2 e1
                    go_wp2
                    go_ret
                    exact ⟨by rw [HEND.out.1]; rfl, HEND.out.2⟩
                  · have e1 := HTL.out
                    rw [two64_in (by unfold In64; omega)] at e1
                    injection e1 with e1
                    obtain ⟨e1, rfl⟩ := two_inj e1
                    have HLE2 : Hid (legE S ⟨nm, sm⟩ = giveE ⟨na, va, sa, la⟩ (-sm)) := by show _ = _; rw [HLE.out, if_neg hmin]
                    have e2 := HTA.out
                    by_cases hin : In64 (va + sm)
                    · rw [two64_in hin] at e2
                      injection e2 with e2
                      obtain ⟨rfl, rfl⟩ := two_inj e2
                      have hin' : In64 (va - -sm) := by rw [Int.sub_neg]; exact hin
                      by_cases hpos : 0 < tl
                      · have hx := HFX.out tl ⟨hpos, by omega⟩
                        have en : -sm = tl := by omega
                        cases hfb : freeB ⟨na, va, sa, la⟩ tl with
                        | false =>
                          rw [hfb] at hx
                          have HX := Lib.hid hx
                          have HG9 : Hid (giveE ⟨na, va, sa, la⟩ (-sm) = 9) := by show _ = _; unfold giveE; rw [if_pos hin', en, if_pos ⟨hpos, hfb⟩]
                          have HRT9 : Hid (∀ W, Fr No w W → checkE S L = 9 ∧ Fr No w W) := fun W hW => HRET.out 9 W (by rw [HLE2.out, HG9.out]) (by omega) hW
                          clear hx hfb en hin' hin e1 e2 hmin h2
                          go_wp2_with fail
                          (with_reducible refine HX.out.mono ?_)
                          rintro e w10 ⟨rfl, hf10⟩
                          have HEND := Lib.hid (HRT9.out _ (HF9.out.trans hf10))
                          clear hf10
                          go_wp2
                          go_ret
                          exact ⟨by rw [HEND.out.1]; rfl, HEND.out.2⟩
                        | true =>
                          rw [hfb] at hx
                          have HX := Lib.hid hx
                          have HG0 : Hid (∀ g ∈ L.take (i + 1), legE S g = 0) := HNX.out (by rw [HLE2.out]; unfold giveE; rw [if_pos hin', en, if_neg (by rw [hfb]; simp)])
                          clear hx hfb en hin' hin e1 e2 hmin h2
                          go_wp2_with fail
                          (with_reducible refine HX.out.mono ?_)
                          rintro e w10 ⟨rfl, hf10⟩
                          have HF10 := Lib.hid (HF9.out.trans hf10)
                          clear hf10
                          go_wp2
                          go_roundw
                          case rel => exact ⟨i + 1, by omega, by go_num, HG0.out, HF10.out⟩
                          case measure => simp [intOf]; omega
                      · have HG0 : Hid (∀ g ∈ L.take (i + 1), legE S g = 0) := HNX.out (by rw [HLE2.out]; unfold giveE; rw [if_pos hin', if_neg (fun h => hpos (by have := h.1; omega))])
                        clear hin' hin e1 e2 hmin h2
                        go_wp2
                        go_roundw
                        case rel => exact ⟨i + 1, by omega, by go_num, HG0.out, HF9.out⟩
                        case measure => simp [intOf]; omega
                    · rw [two64_out hin] at e2
                      injection e2 with e2
                      obtain ⟨rfl, rfl⟩ := two_inj e2
                      have HEND := Lib.hid (HRET.out 2 _ (by rw [HLE2.out]; unfold giveE; rw [if_neg (by rw [Int.sub_neg]; exact hin)]) (by omega) HF9.out)
                      clear hmin h2 e1 e2 hin
                      go_wp2
                      go_ret
                      exact ⟨by rw [HEND.out.1]; rfl, HEND.out.2⟩
            · obtain rfl : i = L.length := by omega
              have HZ : Hid (checkE S L = 0) := by show _ = _; rw [HN.out]; rw [List.take_length] at hz; exact all_zero S HND.out hz
              have HFI := Lib.hid hfi
              clear hz hfi
              go_wp2
              go_ret
              exact ⟨by rw [HZ.out]; rfl, HFI.out⟩
        · have HN : Hid (checkE S L = 8) := by show _ = _; unfold checkE; rw [if_neg (by rw [HRB.out]; decide), if_neg hT]
          clear hmain
          by_cases hin : In64 (total (sums L))
          · rw [two64_in hin] at h4
            have H4 := Lib.hid h4
            have hz : (total (sums L) == 0) = false := beq_eq_false_iff_ne.2 hT
            have hz2 : (total (sums L) != 0) = true := by rw [bne_iff_ne]; exact hT
            generalize total (sums L) = tt at *
            clear h4 hin hT
            go_wp2_with fail
            refine H4.out.mono ?_
            rintro e w5 ⟨rfl, hb5⟩
            have HF5 := Lib.hid (HF.out.trans (Fr.of_below hb5 _))
            clear hb5
            go_wp2
            go_ret
            exact ⟨by rw [HN.out]; rfl, HF5.out⟩
          · rw [two64_out hin] at h4
            have H4 := Lib.hid h4
            clear h4 hin hT
            go_wp2_with fail
            refine H4.out.mono ?_
            rintro e w5 ⟨rfl, hb5⟩
            have HF5 := Lib.hid (HF.out.trans (Fr.of_below hb5 _))
            clear hb5
            go_wp2
            go_ret
            exact ⟨by rw [HN.out]; rfl, HF5.out⟩
end Go.Proofs.YtjbeaoabhhaiiaaGreat

namespace Go.My
open Go
/-- a region that reads, and stores at its end: the world behind the draw under a name -/
theorem wp_region_tail {P : Program} {id : Nat} {Q : Exit → Act → World → Prop} {a : Act} {w : World} {l : List Oper} (n : Nat) (hm : P.follows .mixedOrders = true) (hB : Region.lexTailB .any l.toArray n = true)
    (h : ∀ w', w' = w.drew → wpStill P l.toArray w' (fun a' => wpList P l.toArray Q (l.drop n) a' w') (l.take n) a) : (Code.region id l.toArray true).wp P Q a w :=
  wp_region_still_tail n hm hB (h _ rfl)
end Go.My
namespace Go.Proofs.YtjbeaoabhhaiiaaGreat
open Go.RowKit Go.My Go.Maps
set_option linter.unusedSimpArgs false
set_option linter.unusedVariables false
attribute [local go_sem ↓] Go.wp_at_zero Go.wp_at_succ

theorem legs_append : ∀ (A B : List Lg) (S : List Ac), legsE S A = 0 → legsE S (A ++ B) = legsE (legsS S A) B ∧ legsS S (A ++ B) = legsS (legsS S A) B
  | [], B, S, _ => ⟨rfl, rfl⟩
  | g :: r, B, S, h => by
    rw [legsE_cons] at h
    by_cases h0 : legE S g = 0
    · rw [if_pos h0] at h
      have ih := legs_append r B (legS S g) h
      rw [List.cons_append, legsE_cons, legsS_cons, legsS_cons, if_pos h0, if_pos h0, if_pos h0]
      exact ih
    · rw [if_neg h0] at h
      exact absurd h h0
theorem legs_app_ne : ∀ (A B : List Lg) (S : List Ac), legsE S A ≠ 0 → legsE S (A ++ B) ≠ 0
  | [], B, S, h => absurd rfl h
  | g :: r, B, S, h => by
    rw [legsE_cons] at h
    rw [List.cons_append, legsE_cons]
    by_cases h0 : legE S g = 0
    · rw [if_pos h0] at h ⊢
      exact legs_app_ne r B _ h
    · rw [if_neg h0]
      exact h0
/-- the next leg of legs that may be posted -/
theorem legs_next {S : List Ac} {L : List Lg} (h : legsE S L = 0) (i : Nat) (hi : i < L.length) : legE (legsS S (L.take i)) L[i] = 0 ∧ legsS S (L.take (i + 1)) = legS (legsS S (L.take i)) L[i] := by
  have h1 : legsE S (L.take i) = 0 := by
    rcases Decidable.em (legsE S (L.take i) = 0) with h0 | h0
    · exact h0
    · exfalso
      have := legs_app_ne (L.take i) (L.drop i) S h0
      rw [List.take_append_drop] at this
      exact this h
  have hsp : L = L.take i ++ (L[i] :: L.drop (i + 1)) := by simp
  have h2 : legsE (legsS S (L.take i)) (L[i] :: L.drop (i + 1)) = 0 := by
    have := (legs_append (L.take i) (L[i] :: L.drop (i + 1)) S h1).1
    rw [← hsp] at this
    rw [← this]
    exact h
  have h3 : legE (legsS S (L.take i)) L[i] = 0 := by
    rw [legsE_cons] at h2
    rcases Decidable.em (legE (legsS S (L.take i)) L[i] = 0) with h0 | h0
    · exact h0
    · rw [if_neg h0] at h2
      exact absurd h2 h0
  refine ⟨h3, ?_⟩
  rw [List.take_succ_eq_append_getElem hi, (legs_append (L.take i) [L[i]] S h1).2, legsS_cons, if_pos h3]
  rfl
theorem rise_inj {S : List Ac} (h : Rise S) {i k : Nat} (hi : i < S.length) (hk : k < S.length) (e : S[i].name = S[k].name) : i = k := by
  rcases Nat.lt_trichotomy i k with h1 | h1 | h1
  · have := List.pairwise_iff_getElem.1 h i k hi hk h1
    unfold Ac.key at this
    rw [e, WideShapes.before_irrefl] at this
    cases this
  · exact h1
  · have := List.pairwise_iff_getElem.1 h k i hk hi h1
    unfold Ac.key at this
    rw [e, WideShapes.before_irrefl] at this
    cases this
theorem refat_at (q : Nat) (S : List Ac) (s : ByteArray) (k : Nat) (hk : k < S.length) (w : World) (h : RfS w q S) (hI : Inv S) (hn : S[k].name = s.data.toList) :
    Calls Tryz.prog 59 #[.pointer (some ⟨q, 0, none⟩), .string s] w fun e w' => e = .returned (.int .i64 k) ∧ w = w' := by
  refine (refat_any q S s w h hI.len).mono ?_
  rintro e w' ⟨z, rfl, hz, rfl⟩
  rcases hz with ⟨hg, _⟩ | ⟨j, hj, rfl, hnm, _⟩
  · exact absurd hn (getA_none hg _ (List.getElem_mem hk))
  · have := rise_inj hI.rise hj hk (by rw [hnm, hn])
    subst this
    exact ⟨rfl, rfl⟩
def MkRel (w : World) (q : Nat) (S : List Ac) (L : List Lg) (iv : Value) (wr : World) : Prop := ∃ i : Nat, i ≤ L.length ∧ iv = .int .i64 i ∧ RfS wr q (legsS S (L.take i)) ∧ Fr (At1 q) w wr

set_option maxRecDepth 100000 in
set_option maxHeartbeats 4000000 in
theorem refmake_any (q : Nat) (S : List Ac) (F : Nat → Prop) (A : Option Addr) (c : Nat) (cells : List Value) (L : List Lg) (w : World) (h : RfS w q S) (hI : Inv S) (hr : Rd w F 2 A L.length cells) (hF : ∀ k, F k → k < w.heap.size ∧ k ≠ q) (hE : Each RdLg 2 cells L) (hL : L.length ≤ 100) :
    Calls Tryz.prog 54 #[.pointer (some ⟨q, 0, none⟩), .slice A L.length c] w (DeedsR q (checkE S L) (makeS S L) w) := by
  have HR := Lib.hid hr
  have HE := Lib.hid hE
  have HH := Lib.hid h
  have HI := Lib.hid hI
  have HF := Lib.hid hF
  have HCK := Lib.hid (refcheck_any q S F A c cells L w h hI hr hE hL)
  by_cases h0 : checkE S L = 0
  · have HM : Hid (makeS S L = legsS S L) := by show _ = _; unfold makeS; rw [if_pos h0]
    have HZ := Lib.hid h0
    have HLZ := Lib.hid (check_zero h0).2.2
    rw [h0] at HCK
    clear hr hE h hI hF h0
    go_enter Tryz.func54, Tryz.ntmps54
    go_wp2_with fail
    refine HCK.out.mono ?_
    rintro e w1 ⟨rfl, hf1⟩
    have HST : Hid (RfS w1 q (legsS S (L.take 0)) ∧ Fr (At1 q) w w1) := ⟨HH.out.no hf1, hf1.mono fun _ _ h => False.elim h⟩
    clear hf1
    go_wp2_with fail
    go_loopw [6] (fun iv wr => MkRel w q S L iv wr) (fun iv _ => L.length - (intOf iv).toNat)
    case atStart => exact ⟨0, Nat.zero_le _, rfl, HST.out.1, HST.out.2⟩
    case round =>
      obtain ⟨i, hi, rfl, hrf, hfr⟩ := hrel
      by_cases hil : i < L.length
      · obtain ⟨ad, rfl, had, hok, q0, q1⟩ := lg_at (HR.out.fr (by omega) hfr fun k hk _ h => (HF.out k hk).2 h) HE.out i hil hil
        obtain ⟨hl0, hln⟩ := legs_next HLZ.out i hil
        have hIT : Inv (legsS S (L.take i)) := inv_legs HI.out _
        obtain ⟨a, ha, hin, hmin, _, hls⟩ := leg_some hl0
        rw [hls] at hln
        generalize legsS S (L.take i) = T at *
        generalize L[i] = g at *
        obtain ⟨k, hk, rfl⟩ := List.getElem_of_mem (getA_some ha).1
        have hnk : T[k].name = g.nm := (getA_some ha).2
        have HLN : Hid (legsS S (L.take (i + 1)) = T.set k { T[k] with hv := T[k].hv + g.sum }) := by
          show _ = _
          rw [hln]
          exact put_set T k hk _ hIT.rise rfl
        have HCS : Hid ((acs T).set (k * 4 + 1) (.int .i64 (T[k].hv + g.sum)) = acs (T.set k { T[k] with hv := T[k].hv + g.sum })) := acs_set T k 1 hk { T[k] with hv := T[k].hv + g.sum } _ (by omega) rfl
        obtain ⟨nm, sm⟩ := g
        unfold Lg.nm at hnk
        unfold Lg.ok at hok
        simp only at q0 q1 hok hnk HLN HCS hin
        have HAT : Hid (∀ W, RfS W q T → Calls Tryz.prog 59 #[.pointer (some ⟨q, 0, none⟩), .string nm] W fun e w' => e = .returned (.int .i64 k) ∧ w' = W) := fun W hW => (refat_at q T nm k hk W hW hIT hnk).mono fun _ _ h => ⟨h.1, h.2.symm⟩
        obtain ⟨A1, c1, hb, h1, h2, ho⟩ := hrf
        obtain ⟨bd, rfl, _, p0, p1, p2, p3⟩ := acs_at ho.rd k hk
        have HGB : Hid (∀ b, (∀ cur, ¬ Blk wr b 80 cur) ∨ wr.heap.size ≤ b → True) := fun _ _ => trivial
        have hTL := hIT.len
        have hqn : (ad.add (i * 2)).block ≠ q := by rw [block_of_add]; exact (HF.out _ had).2
        have hqs : (ad.add (i * 2)).block < wr.heap.size := World.block_lt_of_cell? wr _ q0
        generalize hva : T[k].hv = va at *
        have HVA := Lib.hid hva
        clear hva
        generalize hTT : T.set k { T[k] with hv := va + sm } = T' at *
        have hT'n : T'.length = T.length := by rw [← hTT, List.length_set]
        have c0 := hb.cell 0
        have f0 := hb.frozen 0
        simp only [List.getElem?_toArray, List.getElem?_cons_zero] at c0
        have HB := Lib.hid hb
        have HO := Lib.hid ho
        have HFR := Lib.hid hfr
        have HIN := Lib.hid hin
        unfold In64 at hin
        obtain ⟨hin1, hin2⟩ := hin
        unfold maxLen at h2
        have hsz := hfr.size
        clear hb ho hfr hIT hnk hls hln hl0 ha hmin hok HGB hTT p0 p1 p2 p3
        go_upto_region 6 with (at_builtin; refine wpList_app _ rfl (.const (.slice none 0 0)) (.tmp 24) 77 77 rfl elA (Own.nil _ _ _) rfl (Src.of_rd HO.out.rd (acs_ones T) Tryz.underlying77) rfl (by unfold maxLen; omega) (by omega) ?_; intro v4 w4 hown4 hfr4 hnew4; rw [Nat.zero_add, List.nil_append] at hown4; obtain ⟨g, c4, cur4, rfl, hg4, hc4, hm4, _, _⟩ := hown4.formPos (by omega); have hf4 := fr_at_none (show Fr (AtO none) _ w4 from hfr4); have hb4 := HB.out.fr hf4 (fun h => h); have k4 := hb4.cell 0; have z4 := hb4.frozen 0; simp only [List.getElem?_toArray, List.getElem?_cons_zero] at k4)
        have hqg : q ≠ g := fun h => hown4.ne_ hb4 (by decide) (by rw [h]; rfl)
        have hgn : w.heap.size ≤ g := by
          rcases hnew4 with h | h
          · cases h
          · have h' : some g = some _ := h
            injection h' with h'
            omega
        have hown5 := hown4.setCell (p := ⟨q, 0, none⟩) (hown4.ne_ hb4 (by decide)) (.slice (some ⟨g, 0, none⟩) T.length c4)
        have hb5 := hb4.set_ 0 (.slice (some ⟨g, 0, none⟩) T.length c4)
        have hf5 : Fr (At1 q) wr (w4.setCell ⟨q, 0, none⟩ (.slice (some ⟨g, 0, none⟩) T.length c4)) := Fr.setCell (S := At1 q) (p := ⟨q, 0, none⟩) (hf4.mono fun _ _ h => False.elim h) (fun _ => rfl) _
        generalize (w4.setCell ⟨q, 0, none⟩ (.slice (some ⟨g, 0, none⟩) T.length c4)) = w5 at *
        have hrf5 : RfS w5 q T := rfs_mk rfl hb5 hc4 hm4 hown5
        refine wp_region_tail 22 (by kernel_rfl) (by kernel_rfl) fun w6 hw6 => ?_
        have h56 : Fr No w5 w6 := by rw [hw6]; exact (Fr.refl _ _).drew
        have HF6 := Lib.hid (hf5.trans (h56.mono fun _ _ h => False.elim h))
        have y0 : w6.cell? (ad.add (i * 2)) = some (.string nm) := HF6.out.cell_some q0 hqn
        have y1 : w6.cell? ⟨(ad.add (i * 2)).block, (ad.add (i * 2)).off + 1, none⟩ = some (.int .i64 sm) := HF6.out.cell_some q1 hqn
        have k6 : w6.cell? ⟨q, 0, none⟩ = some (.slice (some ⟨g, 0, none⟩) T.length c4) := (hb5.fr h56 (fun h => h)).cell 0
        have hown6 := hown5.fr h56 (fun _ _ h => h)
        have HRF6 := Lib.hid (hrf5.no h56)
        have HB6 := Lib.hid (hb5.fr h56 (fun h => h))
        obtain ⟨dd, hdd, _, _, r1, _, _⟩ := acs_at hown6.rd k hk
        injection hdd with hdd
        subst hdd
        rw [add_zero, HVA.out] at r1
        have r1' : w6.cell? ⟨g, k * 4 + 1, none⟩ = some (.int .i64 va) := r1
        clear r1
        obtain ⟨hown7, -, hz7⟩ := own_set hown6 (k * 4 + 1) (by omega) (by omega) (.int .i64 (va + sm))
        have HO7 := Lib.hid hown7
        have HAT6 := Lib.hid (HAT.out w6 HRF6.out)
        have hks : k < T.length := hk
        clear hw6 h56 hown5 hown6 hb5 hf5 hrf5 hown4 hf4 hfr4 hb4 k4 z4 hnew4 hg4 hown7 c0 f0 q0 q1
        simp only [List.take_succ_cons, List.take_zero, List.drop_succ_cons, List.drop_zero]
        repeat still_step
        still_call HAT6.out
        repeat still_step
        refine wpStill_nil ?_
        go_wp2
        go_roundw
        case rel =>
          refine ⟨i + 1, by omega, by go_num, ?_, ?_⟩
          · rw [HLN.out]
            refine rfs_mk (by omega) (HB6.out.far hqg _) hc4 hm4 ?_
            rw [← HCS.out]
            exact HO7.out
          · exact Fr.setCell (S := At1 q) (p := ⟨g, k * 4 + 1, none⟩) (HFR.out.trans HF6.out) (fun h => absurd h (by show ¬ g < _; omega)) _
        case measure => simp [intOf]; omega
      · obtain rfl : i = L.length := by omega
        have HEND : Hid (RfS wr q (makeS S L)) := by
          rw [List.take_length] at hrf
          show RfS _ _ _
          rw [HM.out]
          exact hrf
        have HFR := Lib.hid hfr
        clear hrf hfr
        go_wp2
        go_ret
        exact ⟨by rw [HZ.out]; rfl, HEND.out, HFR.out⟩
  · have HM := Lib.hid (make_err h0)
    have hz : (checkE S L == 0) = false := beq_eq_false_iff_ne.2 h0
    generalize checkE S L = E at *
    clear hr hE h hI hF h0
    go_enter Tryz.func54, Tryz.ntmps54
    go_wp2_with fail
    refine HCK.out.mono ?_
    rintro e w1 ⟨rfl, hf1⟩
    have HST : Hid (RfS w1 q S ∧ Fr (At1 q) w w1) := ⟨HH.out.no hf1, hf1.mono fun _ _ h => False.elim h⟩
    clear hf1
    by_cases hl : 0 < L.length
    all_goals
      go_wp2_with fail
      go_loopw [6] (fun iv wr => iv = .int .i64 0 ∧ wr = w1) (fun _ _ => 0)
      case atStart => exact ⟨rfl, rfl⟩
      case round =>
        obtain ⟨rfl, rfl⟩ := hrel
        go_wp2
        go_ret
        exact ⟨rfl, by rw [HM.out]; exact HST.out.1, HST.out.2⟩
end Go.Proofs.YtjbeaoabhhaiiaaGreat

namespace Go.Proofs.YtjbeaoabhhaiiaaGreat
open Go.RowKit Go.My Go.Maps
set_option linter.unusedSimpArgs false
set_option linter.unusedVariables false
attribute [local go_sem ↓] Go.wp_at_zero Go.wp_at_succ

theorem refmakeT_any (q : Nat) (S : List Ac) (a b : ByteArray) (x : Int) (w : World) (h : RfS w q S) (hI : Inv S) (ha : a.size ≤ maxLen) (hb : b.size ≤ maxLen) (hx : 0 < x ∧ x ≤ 9223372036854775807) :
    Calls Tryz.prog 54 #[.pointer (some ⟨q, 0, none⟩), .slice (some ⟨w.heap.size, 0, none⟩) 2 2] (w.alloc (.cells #[.string a, .int .i64 (-x), .string b, .int .i64 x] 116)) (DeedsR q (checkE S (legsT a b x)) (makeS S (legsT a b x)) (w.alloc (.cells #[.string a, .int .i64 (-x), .string b, .int .i64 x] 116))) := by
  have hbk := Blk.new w 116 #[.string a, .int .i64 (-x), .string b, .int .i64 x]
  have hql := h.lt
  refine refmake_any q S (fun k => k = w.heap.size) _ 2 [.string a, .int .i64 (-x), .string b, .int .i64 x] (legsT a b x) _ (h.no ((Fr.refl _ _).alloc _)) hI ⟨rfl, fun _ => ⟨_, rfl, rfl, fun j u hu => ?_⟩⟩ (fun k hk => ?_) ⟨rfl, fun i g hg => ?_⟩ (by simp [legsT])
  · rw [add_zero, hbk.cell j]
    simpa using hu
  · subst hk
    exact ⟨by simp, by omega⟩
  · have hlt : i < 2 := by have := (List.getElem?_eq_some_iff.1 hg).1; simpa [legsT] using this
    match i, hlt with
    | 0, _ =>
      simp only [legsT, List.getElem?_cons_zero, Option.some.injEq] at hg
      subst hg
      exact ⟨rfl, ha, by unfold In64; simp only; omega⟩
    | 1, _ =>
      simp only [legsT, List.getElem?_cons_succ, List.getElem?_cons_zero, Option.some.injEq] at hg
      subst hg
      exact ⟨rfl, hb, by unfold In64; simp only; omega⟩
set_option maxRecDepth 100000 in
set_option maxHeartbeats 2000000 in
theorem rtake_any (q r : Nat) (S : List Ac) (H : List Hd) (s b : ByteArray) (n x : Int) (w : World) (hc : RfS w q S) (hI : Inv S) (hh : RfH w r H) (hr : RiseH H) (hP : PosH H) (hH : H.length < 1000) (hs : s.size ≤ maxLen) (hb : b.size ≤ maxLen) (hx : In64 x) :
    Calls Tryz.prog 56 #[.pointer (some ⟨r, 0, none⟩), .pointer (some ⟨q, 0, none⟩), .string s, .int .i64 n, .string b, .int .i64 x] w (RRet q r (takeE S H s n b x) (takeSS S H s n b x) (takeHH S H s n b x) w) := by
  have HNO : Hid (∀ W, Fr No w W → RfS W q S ∧ RfH W r H ∧ Fr (At2 q r) w W) := fun W hW => ⟨hc.no hW, hh.no hW, hW.mono fun _ _ h => False.elim h⟩
  have HERR : Hid (∀ W k, Fr No w W → takeE S H s n b x = k → k ≠ 0 → RRet q r (takeE S H s n b x) (takeSS S H s n b x) (takeHH S H s n b x) w (.returned (.int .i64 k)) W) := fun W k h3 h4 h5 => by
    rw [← h4] at h5 ⊢
    refine ⟨rfl, ?_, ?_, (HNO.out W h3).2.2⟩
    · unfold takeSS; rw [if_neg h5]; exact (HNO.out W h3).1
    · unfold takeHH; rw [if_neg h5]; exact (HNO.out W h3).2.1
  have HAT := Lib.hid (rat_any r H s n w hh hH)
  have hqs := hc.lt
  have hrs := hh.lt
  obtain ⟨A, c, hbr, h1, h2, ho⟩ := hh
  have c0 := hbr.cell 0
  simp only [List.getElem?_toArray, List.getElem?_cons_zero] at c0
  have HO := Lib.hid ho.rd
  clear hbr ho
  have HC := Lib.hid hc
  obtain ⟨B, cB, hbq, g1, g2, hoq⟩ := hc
  have b0 := hbq.cell 0
  simp only [List.getElem?_toArray, List.getElem?_cons_zero] at b0
  have HD : Hid (RfS (w.alloc (.cells #[.slice B S.length cB] 122)) w.heap.size S) := rfs_mk rfl (Blk.new w 122 #[.slice B S.length cB]) g1 g2 (hoq.alloc _)
  have HI := Lib.hid hI
  have HS := Lib.hid hs
  have HBZ := Lib.hid hb
  clear hbq hoq hI hs hb
  go_enter Tryz.func56, Tryz.ntmps56
  go_wp2_with fail
  refine HAT.out.mono ?_
  rintro e wA ⟨z, rfl, hz, rfl⟩
  rcases hz with ⟨hg, rfl⟩ | ⟨k, hk, rfl, e1, e2, hg⟩
  · have HE : Hid (takeE S H s n b x = 6) := by show _ = _; unfold takeE; rw [hg]
    clear hg
    go_wp2
    go_ret
    exact HERR.out _ 6 (Fr.refl _ _) HE.out (by decide)
  · have hpos := hP H[k] (List.getElem_mem hk)
    have HE0 : Hid (takeE S H s n b x = if x < 1 ∨ H[k].sum < x then 13 else if asdE S s.data.toList (-H[k].sum) = 0 then checkE (asdS S s.data.toList (-H[k].sum)) (legsT s b x) else asdE S s.data.toList (-H[k].sum)) := by show _ = _; unfold takeE; rw [hg]
    have HE2 : Hid (takeE S H s n b x = 0 → takeSS S H s n b x = makeS (asdS S s.data.toList (-H[k].sum)) (legsT s b x)) := fun h => by unfold takeSS; rw [if_pos h, hg]; rfl
    have HE3 : Hid (takeE S H s n b x = 0 → takeHH S H s n b x = H.take k ++ H.drop (k + 1)) := fun h => by unfold takeHH; rw [if_pos h]; exact del_atH hr hk e1 e2
    have HCUT := Lib.hid (fun W (hW : RfH W r H) => rcut_any r H k W hW hk hH)
    obtain ⟨ad, rfl, _, _, _, p2⟩ := hd_at HO.out k hk
    have hpt : 0 < H[k].sum ∧ H[k].sum ≤ 9223372036854775807 := ⟨hpos.2.2.1, hpos.2.2.2.1⟩
    have hk0 : ¬ (k : Int) < 0 := by omega
    clear hg e1 e2 hpos hP hr
    generalize H[k].sum = t at *
    by_cases hx1 : x < 1
    · have HE : Hid (takeE S H s n b x = 13) := by show _ = _; rw [HE0.out, if_pos (.inl hx1)]
      go_wp2
      go_ret
      exact HERR.out _ 13 (Fr.refl _ _) HE.out (by decide)
    by_cases hx2 : t < x
    · have HE : Hid (takeE S H s n b x = 13) := by show _ = _; rw [HE0.out, if_pos (.inr hx2)]
      go_wp2
      go_ret
      exact HERR.out _ 13 (Fr.refl _ _) HE.out (by decide)
    have HE1 : Hid (takeE S H s n b x = if asdE S s.data.toList (-t) = 0 then checkE (asdS S s.data.toList (-t)) (legsT s b x) else asdE S s.data.toList (-t)) := by show _ = _; rw [HE0.out, if_neg (by omega)]
    clear HE0
    have HAS : Hid (Calls Tryz.prog 82 #[.pointer (some ⟨w.heap.size, 0, none⟩), .string s, .int .i64 (-t)] (w.alloc (.cells #[.slice B S.length cB] 122)) (DeedsR w.heap.size (asdE S s.data.toList (-t)) (asdS S s.data.toList (-t)) (w.alloc (.cells #[.slice B S.length cB] 122)))) := refaside_any w.heap.size S s (-t) _ HD.out HI.out (in_neg hpt)
    have hwt : wrap64 (-t) = -t := IntWalk.wrap64_in _ ⟨by omega, by omega⟩
    have hwx : wrap64 (-x) = -x := IntWalk.wrap64_in _ ⟨by omega, by omega⟩
    have ca := fun o => ((Fr.refl No w).alloc o).cell_some c0 (fun h => h)
    have pa := fun o => ((Fr.refl No w).alloc o).cell_some p2 (fun h => h)
    have HI1 := Lib.hid (inv_aside HI.out s.data.toList (-t))
    have hxp : 0 < x ∧ x ≤ 9223372036854775807 := ⟨by omega, by omega⟩
    go_wp2_with fail
    refine HAS.out.mono ?_
    rintro e w2 ⟨rfl, hd2, hf2⟩
    have HF2 : Hid (Fr No w w2) := ((Fr.refl No w).alloc _).trans' hf2 (fun i hi hlt => absurd hlt (by have h : i = w.heap.size := hi; omega))
    have HD2 := Lib.hid hd2
    have hs2 : w.heap.size ≤ w2.heap.size := HF2.out.size
    clear hd2 hf2 ca pa p2 c0 b0 HD
    by_cases h0 : asdE S s.data.toList (-t) = 0
    · have HE : Hid (takeE S H s n b x = checkE (asdS S s.data.toList (-t)) (legsT s b x)) := by show _ = _; rw [HE1.out, if_pos h0]
      rw [h0]
      have HMK := Lib.hid (refmakeT_any w.heap.size (asdS S s.data.toList (-t)) s b x w2 HD2.out HI1.out HS.out HBZ.out hxp)
      clear h0
      generalize asdS S s.data.toList (-t) = S1 at *
      go_wp2_with fail
      refine HMK.out.mono ?_
      rintro e w3 ⟨rfl, hd3, hf3⟩
      have HF3 : Hid (Fr No w w3) := (HF2.out.alloc _).trans' hf3 (fun i hi hlt => absurd hlt (by have h : i = w.heap.size := hi; omega))
      have HD3 := Lib.hid hd3
      clear hd3 hf3
      by_cases h3 : checkE S1 (legsT s b x) = 0
      · have HP : Hid (takeE S H s n b x = 0) := by show _ = _; rw [HE.out, h3]
        rw [h3]
        clear h3
        obtain ⟨hc3, hh3, hfr3⟩ := HNO.out w3 HF3.out
        have HH3 := Lib.hid hh3
        have HFR3 := Lib.hid hfr3
        have hE2 := HE2.out HP.out
        have HE2' := Lib.hid hE2
        obtain ⟨D, cD, hbd, e1, e2, hod⟩ := HD3.out
        obtain ⟨B3, c3, hbq, _, _, _⟩ := hc3
        have q0 := hbq.cell 0
        have y0 := hbq.frozen 0
        have d0 := hbd.cell 0
        simp only [List.getElem?_toArray, List.getElem?_cons_zero] at q0 d0
        have HBQ := Lib.hid hbq
        have HOD := Lib.hid hod
        generalize makeS S1 (legsT s b x) = S2 at *
        have HST : Hid (Fr (At1 q) w3 (w3.setCell ⟨q, 0, none⟩ (.slice D S2.length cD))) := Fr.setCell (S := At1 q) (p := ⟨q, 0, none⟩) (Fr.refl _ _) (fun _ => rfl) _
        have HH4 := Lib.hid (HH3.out.chart HBQ.out HST.out)
        have HC4 : Hid (RfS (w3.setCell ⟨q, 0, none⟩ (.slice D S2.length cD)) q S2) := rfs_mk rfl (HBQ.out.set_ 0 _) e1 e2 (HOD.out.setCell (p := ⟨q, 0, none⟩) (HOD.out.ne_ HBQ.out (by decide)) _)
        clear hh3 hfr3 hbd hbq hod hE2
        go_wp2_with fail
        refine (HCUT.out _ HH4.out).mono ?_
        rintro e w5 ⟨rfl, hh5, hf5⟩
        have HH5 := Lib.hid hh5
        have HF5 := Lib.hid hf5
        obtain ⟨cs, hbr⟩ := HH4.out.blk
        have HC5 := Lib.hid (HC4.out.holds hbr hf5)
        clear hh5 hf5 hbr
        go_wp2
        go_ret
        refine ⟨by rw [HP.out]; rfl, ?_, ?_, ?_⟩
        · rw [HE2'.out]; exact HC5.out
        · rw [HE3.out HP.out]; exact HH5.out
        · exact (HFR3.out.trans (HST.out.mono fun _ _ h => .inl h)).trans (HF5.out.mono fun _ _ h => .inr h)
      · have HNZ := Lib.hid h3
        have hz : (checkE S1 (legsT s b x) == 0) = false := beq_eq_false_iff_ne.2 h3
        have hz2 : (checkE S1 (legsT s b x) != 0) = true := bne_iff_ne.2 h3
        generalize checkE S1 (legsT s b x) = ev at *
        clear h3
        go_wp2
        go_ret
        exact HERR.out _ ev HF3.out HE.out HNZ.out
    · have HE : Hid (takeE S H s n b x = asdE S s.data.toList (-t)) := by show _ = _; rw [HE1.out, if_neg h0]
      have HNZ := Lib.hid h0
      have hz : (asdE S s.data.toList (-t) == 0) = false := beq_eq_false_iff_ne.2 h0
      have hz2 : (asdE S s.data.toList (-t) != 0) = true := bne_iff_ne.2 h0
      generalize asdE S s.data.toList (-t) = ev at *
      clear h0
      go_wp2
      go_ret
      exact HERR.out _ ev HF2.out HE.out HNZ.out
end Go.Proofs.YtjbeaoabhhaiiaaGreat
