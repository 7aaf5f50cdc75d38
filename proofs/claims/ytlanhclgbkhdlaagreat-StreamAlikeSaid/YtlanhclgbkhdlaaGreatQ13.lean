/- Maps from texts to values of any kind (rows, structs) that the call makes: of no program. A book in memory. Its small functions: New, isClosed, about. -/
import Derived.Test.YtlanhclgbkhdlaaGreatQ08
import Derived.Test.YtlanhclgbkhdlaaGreatQ10
import Derived.Test.YtlanhclgbkhdlaaGreatQ11
import Derived.Test.YtlanhclgbkhdlaaGreatQ06
import Derived.Deep.RegionHeld3
import Derived.Deep.DrawnRows
namespace Go.My
open Go Go.RowKit Go.Maps
set_option linter.unusedSimpArgs false
set_option linter.unusedVariables false

theorem isKey_txt (k : List UInt8) : WideAt.IsKeyLit (.string k) := by unfold WideAt.IsKeyLit; exact True.intro
/-- block m is such a map of c keys: what it holds, by key -/
def TabS (P : Program) (kt : TypeId) (w : World) (m c : Nat) (f : List UInt8 → Option Value) : Prop :=
  ∃ D : DataW Value, w.ownsMap P kt heldR m c D ∧ Maps.size D = c ∧ Tidy D ∧ (∀ k, Maps.has D (.string k) = (f k).isSome) ∧ ∀ k z, D.atKey (.string k) z = match f k with | some v => .held v | none => z
section
variable {P : Program} {kt : TypeId} {w w' : World} {m c : Nat} {f : List UInt8 → Option Value}
theorem ownsMap_len {H : Type} {R : Value → Option (DataW H × List MemPlace)} {n : Nat} {D : DataW H} (h : w.ownsMap P kt R m n D) : w.ownsMap P kt R m (Maps.size D) D := by
  obtain ⟨es, clock, hb, F, hs, hD⟩ := h
  refine ⟨es, clock, hb, F, ?_, hD⟩
  rw [hD, Maps.size_eq, length_sorted, List.length_map]
  simp
theorem TabS.lt (h : TabS P kt w m c f) : m < w.heap.size := by obtain ⟨D, h, _⟩ := h; exact h.lt
theorem TabS.fr {F : Nat → Prop} (h : TabS P kt w m c f) (hf : Fr F w w') (hn : ¬ F m) : TabS P kt w' m c f := by
  obtain ⟨D, ⟨es, clock, hb, r⟩, r2⟩ := h
  exact ⟨D, ⟨es, clock, (hf.block m (Array.getElem?_eq_some_iff.1 hb).1 hn).trans hb, r⟩, r2⟩
theorem TabS.ne_ {g : Nat} {t : TypeId} {cs : Array Value} (h : TabS P kt w m c f) (hg : Blk w g t cs) : m ≠ g := by
  rintro rfl
  obtain ⟨D, ⟨es, clock, hb, _⟩, _⟩ := h
  unfold Blk at hg
  rw [hb] at hg
  cases hg
theorem TabS.made (w : World) : TabS P kt (w.alloc (.map #[] 0)) w.heap.size 0 (fun _ => none) :=
  ⟨.map [], World.ownsMap_made _ _ _ _, rfl, tidy_empty, fun _ => rfl, fun _ _ => rfl⟩
theorem keyS (hk : P.underlying kt = some .string) {s : ByteArray} (h : s.size ≤ maxLen) : keyOf P kt (.string s) = some (.string s.data.toList) := Go.WideMaps.keyOf_string_mk hk h
/-- the count of keys behind a store -/
def cnt (f : List UInt8 → Option Value) (c : Nat) (k : List UInt8) : Nat := if (f k).isSome then c else c + 1
def upd (f : List UInt8 → Option Value) (k : List UInt8) (v : Value) : List UInt8 → Option Value := fun j => if j = k then some v else f j
theorem TabS.put (h : TabS P kt w m c f) (hk : P.underlying kt = some .string) {t e : TypeId} (ht : P.underlying t = some (.map kt e)) (hn : c < maxLen) (s : ByteArray) (hs : s.size ≤ maxLen) (v : Value) :
    ∃ w', (Instr.mapUpdate t (.map (some m)) (.string s) v).run P w = .ok () w' ∧ TabS P kt w' m (cnt f c s.data.toList) (upd f s.data.toList v) ∧ Fr (At1 m) w w' := by
  obtain ⟨D, ho, hz, hT, hh, ha⟩ := h
  obtain ⟨w', hrun, hown, hg⟩ := ho.update (string_keyed hk) ht hn (keyS hk hs) (show heldR v = some (.held v, []) from rfl)
  generalize s.data.toList = k at *
  have hsz : Maps.size (D.put (.string k) (.held v)) = cnt f c k := by
    unfold cnt
    rw [size_put hT (.held v), hh k, hz]
  refine ⟨w', hrun, ⟨_, ?_, hsz, hT.put (isKey_txt k) _, fun j => ?_, fun j z => ?_⟩, ⟨hg.os, hg.tape, hg.output, hg.size, fun i hi hn => hg.block i hi (fun e => hn (by injection e with e))⟩⟩
  · rw [← hsz]
    exact ownsMap_len hown
  · unfold upd
    by_cases e : j = k
    · subst e
      rw [has_put_same hT.isMap (isKey_txt _)]
      simp
    · rw [has_put_other (fun e2 => e (by injection e2)), hh j]
      simp [e]
  · unfold upd
    by_cases e : j = k
    · subst e
      rw [atKey_put_same hT.isMap (isKey_txt _)]
      simp
    · rw [atKey_put_other (fun e2 => e (by injection e2)), ha j z]
      simp [e]
theorem TabS.look_ok (h : TabS P kt w m c f) (hk : P.underlying kt = some .string) {t e : TypeId} (ht : P.underlying t = some (.map kt e)) {z : Value} (hz : (zeroValue e).run P w = .ok z w) (s : ByteArray) (hs : s.size ≤ maxLen) :
    (Instr.lookup t (.map (some m)) (.string s) true).run P w = .ok (.tuple #[(f s.data.toList).getD z, .bool (f s.data.toList).isSome]) w := by
  obtain ⟨D, ho, _, hT, hh, ha⟩ := h
  obtain ⟨v, ps, hrun, hv⟩ := ho.look_ok (string_keyed hk) ht hz (show heldR z = some (.held z, []) from rfl) (keyS hk hs)
  rw [hh] at hrun
  rw [ha] at hv
  cases hf : f s.data.toList with
  | none =>
    rw [hf] at hrun hv
    injection hv with hv
    injection hv with hv _
    injection hv with hv
    rw [hrun, hv]
    rfl
  | some u =>
    rw [hf] at hrun hv
    injection hv with hv
    injection hv with hv _
    injection hv with hv
    rw [hrun, hv]
    rfl
theorem TabS.look (h : TabS P kt w m c f) (hk : P.underlying kt = some .string) {t e : TypeId} (ht : P.underlying t = some (.map kt e)) {z : Value} (hz : (zeroValue e).run P w = .ok z w) (s : ByteArray) (hs : s.size ≤ maxLen) :
    (Instr.lookup t (.map (some m)) (.string s) false).run P w = .ok ((f s.data.toList).getD z) w := by
  obtain ⟨D, ho, _, hT, hh, ha⟩ := h
  obtain ⟨v, ps, hrun, hv⟩ := ho.lookup (string_keyed hk) ht hz (show heldR z = some (.held z, []) from rfl) (keyS hk hs)
  rw [ha] at hv
  cases hf : f s.data.toList with
  | none =>
    rw [hf] at hv
    injection hv with hv
    injection hv with hv _
    injection hv with hv
    rw [hrun, hv]
    rfl
  | some u =>
    rw [hf] at hv
    injection hv with hv
    injection hv with hv _
    injection hv with hv
    rw [hrun, hv]
    rfl
theorem TabS.len (h : TabS P kt w m c f) {t e : TypeId} (ht : P.underlying t = some (.map kt e)) (ty : TypeId) : (Builtin.len_ #[t] ty #[.map (some m)]).run P w = .ok (.int .i64 (c : Int)) w := by
  obtain ⟨D, ho, hz, _⟩ := h
  have := ho.len ht ty
  rwa [hz] at this
theorem wpList_tabS (w : World) {ops : Array Oper} {rest : List Oper} {o : Oper} {a : Act} {Q : Exit → Act → World → Prop} (hg : o.guard = none) (x y z : Operand) {t e : TypeId} (hop : o.op = Op.mapUpdate t x y z)
    (hx : a.eval x = .map (some m)) (h : TabS P kt w m c f) (hk : P.underlying kt = some .string) (ht : P.underlying t = some (.map kt e)) (s : ByteArray) (v : Value) (hy : a.eval y = .string s) (hz : a.eval z = v) (hs : s.size ≤ maxLen) (hl : c < maxLen)
    (hC : ∀ w', TabS P kt w' m (cnt f c s.data.toList) (upd f s.data.toList v) → Fr (At1 m) w w' → wpList P ops Q rest (a.put o.dst undef) w') : wpList P ops Q (o :: rest) a w := by
  refine wpList_plain hg fun K' hK' => ?_
  obtain ⟨w', hrun, r1, r2⟩ := h.put hk ht hl s hs v
  unfold Oper.wp
  simp [execOp, hop, hx, hy, hz, hrun, Result.andThen]
  exact hK' _ _ (hC w' r1 r2)
end
end Go.My

namespace Go.Proofs.YtlanhclgbkhdlaaGreat
open Go.RowKit Go.My Go.Maps
set_option linter.unusedSimpArgs false
set_option linter.unusedVariables false
attribute [local go_sem ↓] Go.wp_at_zero Go.wp_at_succ

/-- where a book lies: itself, its chart and the chart's map, its holds and their map -/
structure Pl where
  p : Nat
  c : Nat
  m : Nat
  h : Nat
  k : Nat
def Pl.all (q : Pl) : Nat → Prop := fun i => i = q.p ∨ i = q.c ∨ i = q.m ∨ i = q.h ∨ i = q.k
/-- what is written of it -/
def Pl.wr (q : Pl) : Nat → Prop := fun i => i = q.p ∨ i = q.m ∨ i = q.k
theorem Pl.wr_all {q : Pl} {i : Nat} (h : q.wr i) : q.all i := by
  rcases h with h | h | h
  · exact .inl h
  · exact .inr (.inr (.inl h))
  · exact .inr (.inr (.inr (.inr h)))
structure BkS (w : World) (q : Pl) (b : Bk) : Prop where
  blk : Blk w q.p 90 #[.pointer (some ⟨q.c, 0, none⟩), .pointer (some ⟨q.h, 0, none⟩), .int .i64 b.cl]
  ch : ChS w q.c q.m b.S
  hd : HdS w q.h q.k b.H
  ne : q.k ≠ q.m
  inv : BkI b
section
variable {w w' : World} {q : Pl} {b : Bk}
theorem BkS.fr {F : Nat → Prop} (h : BkS w q b) (hf : Fr F w w') (hn : ∀ i, q.all i → ¬ F i) : BkS w' q b :=
  ⟨h.blk.fr hf (hn _ (.inl rfl)), h.ch.fr hf (hn _ (.inr (.inl rfl))) (hn _ (.inr (.inr (.inl rfl)))), h.hd.fr hf (hn _ (.inr (.inr (.inr (.inl rfl))))) (hn _ (.inr (.inr (.inr (.inr rfl))))), h.ne, h.inv⟩
theorem BkS.no (h : BkS w q b) (hf : Fr No w w') : BkS w' q b := h.fr hf (fun _ _ h => h)
theorem BkS.lt (h : BkS w q b) : ∀ i, q.all i → i < w.heap.size := fun i hi => by
  rcases hi with rfl | rfl | rfl | rfl | rfl
  · exact h.blk.lt
  · exact h.ch.1.lt
  · exact h.ch.2.lt
  · exact h.hd.1.lt
  · exact h.hd.2.lt
theorem BkS.mp (h : BkS w q b) : q.m ≠ q.p ∧ q.k ≠ q.p := ⟨h.ch.2.ne_ h.blk, h.hd.2.ne_ h.blk⟩
/-- what has changed is the chart -/
theorem BkS.chart (h : BkS w q b) {S : List Ac} (hc : ChS w' q.c q.m S) (hf : Fr (At1 q.m) w w') (hi : BkI ⟨S, b.H, b.cl⟩) : BkS w' q ⟨S, b.H, b.cl⟩ :=
  ⟨h.blk.fr hf (fun e => h.mp.1 (show q.p = q.m from e).symm), hc, h.hd.at1 h.ch h.ne hf, h.ne, hi⟩
theorem BkS.chart_same (h : BkS w q b) (hc : ChS w' q.c q.m b.S) (hf : Fr (At1 q.m) w w') : BkS w' q b := h.chart hc hf h.inv
/-- the chart and the holds -/
theorem BkS.both (h : BkS w q b) {n : Int} {S : List Ac} {H : List Hd} {e : Ending} (hr : HRet q.c q.m q.h q.k n S H w e w') (hi : BkI ⟨S, H, b.cl⟩) : BkS w' q ⟨S, H, b.cl⟩ :=
  ⟨h.blk.fr hr.fr (fun e => by rcases e with e | e; exact h.mp.1 e.symm; exact h.mp.2 e.symm), hr.ch, hr.hd, h.ne, hi⟩
theorem Pl.wr_m {q : Pl} (hf : Fr (At1 q.m) w w') : Fr q.wr w w' := hf.mono fun _ _ h => .inr (.inl h)
theorem Pl.wr_mk {q : Pl} (hf : Fr (At2 q.m q.k) w w') : Fr q.wr w w' := hf.mono fun _ _ h => by
  rcases h with h | h
  · exact .inr (.inl h)
  · exact .inr (.inr h)
end
/-- a reply that is stored -/
theorem fr_set4 (w : World) (g : Nat) (a b c d : Value) : Fr (At1 g) w ((((w.setCell ⟨g, 0, none⟩ a).setCell ⟨g, 1, none⟩ b).setCell ⟨g, 2, none⟩ c).setCell ⟨g, 3, none⟩ d) :=
  Fr.setCell (S := At1 g) (p := ⟨g, 3, none⟩) (Fr.setCell (S := At1 g) (p := ⟨g, 2, none⟩) (Fr.setCell (S := At1 g) (p := ⟨g, 1, none⟩) (Fr.setCell (S := At1 g) (p := ⟨g, 0, none⟩) (Fr.refl _ _) (fun _ => rfl) _) (fun _ => rfl) _) (fun _ => rfl) _) (fun _ => rfl) _

set_option maxRecDepth 100000 in
set_option maxHeartbeats 1000000 in
theorem isClosed_any (q : Pl) (b : Bk) (n : Int) (w : World) (h : BkS w q b) : Calls Tryz.prog 99 #[.pointer (some ⟨q.p, 0, none⟩), .int .i64 n] w fun e w' => e = .returned (.bool (decide (n ≤ b.cl))) ∧ w = w' := by
  have x2 : w.cell? ⟨q.p, 2, none⟩ = some (.int .i64 b.cl) := h.blk.cell 2
  clear h
  go_enter Tryz.func99, Tryz.ntmps99
  go_wp2
  go_ret
  exact ⟨rfl, rfl⟩

set_option maxRecDepth 100000 in
set_option maxHeartbeats 1000000 in
theorem about_any (q : Pl) (b : Bk) (s : ByteArray) (e0 : Int) (w : World) (h : BkS w q b) (hs : s.size ≤ maxLen) :
    Calls Tryz.prog 97 #[.pointer (some ⟨q.p, 0, none⟩), .string s, .int .i64 e0] w fun e w' => e = .returned (aboutR b.S s.data.toList e0).val ∧ BkS w' q b ∧ Fr (At1 q.m) w w' := by
  have HH := Lib.hid h
  by_cases h0 : e0 = 0
  · subst h0
    have HG : Hid (∀ W, Fr No w W → Calls Tryz.prog 115 #[.pointer (some ⟨q.c, 0, none⟩), .string s] W (GotC q.c q.m b.S s.data.toList W)) := fun W hW => get_any q.c q.m b.S s W (h.ch.no hW) hs h.inv.st.kp.inv.len
    have x0 : ∀ o, (w.alloc o).cell? ⟨q.p, 0, none⟩ = some (.pointer (some ⟨q.c, 0, none⟩)) := fun o => (h.blk.alloc o).cell 0
    have hml := h.ch.2.lt
    clear h hs
    go_enter Tryz.func97, Tryz.ntmps97
    go_wp2_with fail
    refine (HG.out _ ((Fr.refl _ _).alloc _)).mono ?_
    rintro e w2 ⟨rfl, hc2, hf2⟩
    have hb := (Blk.new w 47 #[.int .i64 0, .int .i64 0, .int .i64 0, .int .i64 0]).fr hf2 (fun e => by have : w.heap.size = q.m := e; omega)
    have HF2 : Hid (Fr (At1 q.m) w w2) := (((Fr.refl No w).alloc _).mono (T := At1 q.m) fun _ _ h => False.elim h).trans hf2
    have HB2 := Lib.hid (HH.out.chart_same hc2 HF2.out)
    have c0 := hb.cell 0
    have c1 := hb.cell 1
    have c2 := hb.cell 2
    have c3 := hb.cell 3
    have f0 := hb.frozen 0
    have f1 := hb.frozen 1
    have f2 := hb.frozen 2
    have f3 := hb.frozen 3
    simp only [List.getElem?_toArray, List.getElem?_cons_zero, List.getElem?_cons_succ] at c0 c1 c2 c3
    have HR : Hid (aboutR b.S s.data.toList 0 = ⟨(if (getA b.S s.data.toList).isSome then 0 else 6), (getV b.S s.data.toList).hv, (getV b.S s.data.toList).st, 0⟩) := rfl
    have hrl := hb.lt
    generalize getV b.S s.data.toList = V at *
    generalize (if (getA b.S s.data.toList).isSome then (0 : Int) else 6) = n at *
    obtain ⟨vn, vh, vs, vl⟩ := V
    unfold Ac.val
    simp only at HR
    have hy := Blk.new w2 63 #[.string ⟨vn.toArray⟩, .int .i64 vh, .int .i64 vs, .int .i64 vl]
    have y1 := hy.cell 1
    have y2 := hy.cell 2
    simp only [List.getElem?_toArray, List.getElem?_cons_zero, List.getElem?_cons_succ] at y1 y2
    have HB4 := Lib.hid hb
    clear hy hb hf2 hc2 x0 HG
    go_wp2
    have hd : Blk (((((w2.setCell ⟨w.heap.size, 0, none⟩ (.int .i64 n)).setCell ⟨w.heap.size, 1, none⟩ (.int .i64 vh)).setCell ⟨w.heap.size, 2, none⟩ (.int .i64 vs)).setCell ⟨w.heap.size, 3, none⟩ (.int .i64 0)).alloc (.cells #[.string ⟨vn.toArray⟩, .int .i64 vh, .int .i64 vs, .int .i64 vl] 63)) w.heap.size 47 #[.int .i64 n, .int .i64 vh, .int .i64 vs, .int .i64 0] :=
      ((((HB4.out.set_ 0 (.int .i64 n)).set_ 1 (.int .i64 vh)).set_ 2 (.int .i64 vs)).set_ 3 (.int .i64 0)).alloc _
    have HX := (fr_set4 w2 w.heap.size (.int .i64 n) (.int .i64 vh) (.int .i64 vs) (.int .i64 0)).alloc (.cells #[.string ⟨vn.toArray⟩, .int .i64 vh, .int .i64 vs, .int .i64 vl] 63)
    generalize ((((w2.setCell ⟨w.heap.size, 0, none⟩ (.int .i64 n)).setCell ⟨w.heap.size, 1, none⟩ (.int .i64 vh)).setCell ⟨w.heap.size, 2, none⟩ (.int .i64 vs)).setCell ⟨w.heap.size, 3, none⟩ (.int .i64 0)).alloc (.cells #[.string ⟨vn.toArray⟩, .int .i64 vh, .int .i64 vs, .int .i64 vl] 63) = w3 at *
    have d0 := hd.cell 0
    have d1 := hd.cell 1
    have d2 := hd.cell 2
    have d3 := hd.cell 3
    simp only [List.getElem?_toArray, List.getElem?_cons_zero, List.getElem?_cons_succ] at d0 d1 d2 d3
    refine bodyPost_ret (v := .agg #[.int .i64 n, .int .i64 vh, .int .i64 vs, .int .i64 0]) (by simp [results, Tryz.results97, go_sem, d0, d1, d2, d3]) rfl ?_
    refine ⟨by rw [HR.out]; rfl, HB2.out.fr HX (fun i hi e => ?_), HF2.out.trans' HX fun i hi hlt => ?_⟩
    · have := HH.out.lt i hi
      have : i = w.heap.size := e
      omega
    · have : i = w.heap.size := hi
      omega
  · have HR : Hid (aboutR b.S s.data.toList e0 = ⟨e0, 0, 0, 0⟩) := by show _ = _; unfold aboutR; rw [if_neg h0]; rfl
    have hne : (e0 != 0) = true := by rw [bne_iff_ne]; exact h0
    have hb := Blk.new w 47 #[.int .i64 0, .int .i64 0, .int .i64 0, .int .i64 0]
    have c0 := hb.cell 0
    have c1 := hb.cell 1
    have c2 := hb.cell 2
    have c3 := hb.cell 3
    have f0 := hb.frozen 0
    have f1 := hb.frozen 1
    have f2 := hb.frozen 2
    have f3 := hb.frozen 3
    simp only [List.getElem?_toArray, List.getElem?_cons_zero, List.getElem?_cons_succ] at c0 c1 c2 c3
    clear h h0 hb hs
    go_enter Tryz.func97, Tryz.ntmps97
    go_wp2
    refine bodyPost_ret (v := .agg #[.int .i64 e0, .int .i64 0, .int .i64 0, .int .i64 0]) (by simp [results, Tryz.results97, go_sem, c0, c1, c2, c3, f0, f1, f2, f3]) rfl ?_
    exact ⟨by rw [HR.out]; rfl, HH.out.no ((Fr.refl _ _).alloc _), (Fr.refl _ _).alloc _⟩
set_option maxRecDepth 100000 in
set_option maxHeartbeats 1000000 in
theorem newB_any (w : World) : Calls Tryz.prog 29 #[] w fun e w' => ∃ q : Pl, e = .returned (.pointer (some ⟨q.p, 0, none⟩)) ∧ BkS w' q bk0 ∧ Fr No w w' ∧ ∀ i, q.all i → w.heap.size ≤ i := by
  go_enter Tryz.func29, Tryz.ntmps29
  go_wp2_with fail
  refine (new_any _).mono ?_
  rintro e w1 ⟨c, m, rfl, hc1, hf1, hcl, hml⟩
  go_wp2_with fail
  refine (newH_any _).mono ?_
  rintro e w2 ⟨h, k, rfl, hh2, hf2, hhl, hkl⟩
  have hm := hc1.2.lt
  have hc2 := hc1.no hf2
  have hs1 := hf1.size
  have hs2 := hf2.size
  have HB := Lib.hid (Blk.new w2 90 #[.pointer (some ⟨c, 0, none⟩), .pointer (some ⟨h, 0, none⟩), .int .i64 0])
  have HC2 := Lib.hid hc2
  have HH2 := Lib.hid hh2
  have HF := Lib.hid (hf1.trans hf2)
  clear hc1 hf1 hc2 hh2 hf2
  go_wp2
  go_ret
  refine ⟨⟨w2.heap.size, c, m, h, k⟩, rfl, ⟨HB.out, HC2.out.no ((Fr.refl _ _).alloc _), HH2.out.no ((Fr.refl _ _).alloc _), ?_, bki0⟩, HF.out.alloc _, ?_⟩
  · simp only
    omega
  · intro i hi
    rcases hi with e | e | e | e | e <;> simp only at e <;> omega
end Go.Proofs.YtlanhclgbkhdlaaGreat
