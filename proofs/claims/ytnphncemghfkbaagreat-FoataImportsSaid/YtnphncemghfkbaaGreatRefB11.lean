/- The document's own bytes of orders and replies. -/
import Derived.Test.YtnphncemghfkbaaGreatRefO3
import Derived.Test.YtnphncemghfkbaaGreatRefP1
import Derived.Test.YtnphncemghfkbaaGreatQ13
import Derived.Deep.RegionHeldLaw
namespace Go.Proofs.YtnphncemghfkbaaGreat
open Go.RowKit Go.My Go.Maps
set_option linter.unusedSimpArgs false
set_option linter.unusedVariables false
attribute [local go_sem ↓] Go.wp_at_zero Go.wp_at_succ

/-- a row of bytes, made since w1 -/
def RowN (w1 W : World) (A : Option Addr) (c : Nat) (l : List UInt8) : Prop := Own W 5 1 (.slice A l.length c) l.length (bs l) ∧ Fr No w1 W ∧ Newer w1.heap.size none (Value.slice A l.length c).ownBlock
theorem RowN.fr {w1 W W' : World} {A : Option Addr} {c : Nat} {l : List UInt8} (h : RowN w1 W A c l) (hf : Fr No W W') : RowN w1 W' A c l := ⟨h.1.fr hf (fun _ _ h => h), h.2.1.trans hf, h.2.2⟩
def RetBb (w1 W : World) (l : List UInt8) (e : Ending) (W' : World) : Prop := ∃ A c, e = .returned (.slice A l.length c) ∧ RowN w1 W' A c l ∧ Fr No W W'
theorem RetOwn.nb {w1 W W' : World} {l : List UInt8} {e : Ending} (h : RetOwn W 5 1 none l.length (bs l) e W') (hf : Fr No w1 W) : RetBb w1 W l e W' := by
  obtain ⟨v, rfl, ho, hf2, hn⟩ := h
  obtain ⟨A, c, rfl, _, _⟩ := ho.form
  exact ⟨A, c, rfl, ⟨ho, hf.trans (fr_at_none hf2), Newer.trans (.inl rfl) hn hf.size⟩, fr_at_none hf2⟩
theorem refNumN (x : Int) (h : In64 x) (w1 W : World) (hf : Fr No w1 W) : Calls Tryz.prog 34 #[.int .i64 x] W (RetBb w1 W (nB x)) :=
  (refnum_any x W h.1 h.2).mono fun e W' h => RetOwn.nb (l := nB x) h hf
theorem refTextN (s : ByteArray) (h : s.size ≤ maxLen) (h2 : s.size ≤ 140737488350000) (w1 W : World) (hf : Fr No w1 W) : Calls Tryz.prog 36 #[.string s] W (RetBb w1 W (tB s.data.toList)) :=
  (reftext_any s W h2).mono fun e W' h => by
    refine RetOwn.nb (l := tB s.data.toList) ?_ hf
    have e1 : (tB s.data.toList).length = (enc (zig s.size)).length + s.size := by unfold tB; rw [List.length_append]; rfl
    rw [e1]
    exact h
set_option maxRecDepth 100000 in
theorem refnumN (x : Int) (h : In64 x) (w1 W : World) (hf : Fr No w1 W) : Calls Tryz.prog 67 #[.int .i64 x] W (RetBb w1 W (nB x)) := by
  have H := Lib.hid (refNumN x h w1 W hf)
  clear h hf
  go_enter Tryz.func67, Tryz.ntmps67
  go_wp2_with fail
  refine H.out.mono ?_
  rintro e w' ⟨A, c, rfl, hr, hf⟩
  go_wp2
  go_ret
  exact ⟨A, c, rfl, hr, hf⟩
theorem app_len {L l m : List UInt8} (h : Hid (L = l ++ m)) : Hid (L.length = l.length + m.length) := by
  have e := h.out
  subst e
  exact List.length_append
theorem step_appN {ops : Array Oper} {o : Oper} {a : Act} {K : Act → World → Prop} {Q : Exit → Act → World → Prop} {E : Prop} {w : World} (hgd : o.guard = none) (s x : Operand)
    (ho : o.op = .call { callee := .builtin .append, args := #[s, x], argTypes := #[25, 25] }) {w1 : World} {A B : Option Addr} {c d : Nat} {l m : List UInt8}
    (h1 : RowN w1 w A c l) (hs : a.eval s = .slice A l.length c) (h2 : RowN w1 w B d m) (hx : a.eval x = .slice B m.length d) (hb : l.length + m.length ≤ 1000000)
    (h : ∀ A' c' L' w', Hid (L' = l ++ m) → RowN w1 w' A' c' L' → K (a.put o.dst (.slice A' L'.length c')) w') :
    if Region.wanted o (yielded ops a.tmps) = true then Oper.wp Tryz.prog o a w K Q else E := by
  refine step_app w hgd s x 25 25 ho elB h1.1 hs (Src.of_rd h2.1.rd (bs_one m) Tryz.underlying25) hx (by unfold maxLen; omega) (by omega) fun v' w' g1 g2 g3 => ?_
  obtain ⟨A', c', rfl, _, _⟩ := g1.form
  have e1 : l.length + m.length = (l ++ m).length := by rw [List.length_append]
  rw [e1, ← bs_append] at g1
  rw [e1] at g3 ⊢
  exact h A' c' (l ++ m) w' (Lib.hid rfl) ⟨g1, fr_no h1.2.1 h1.2.2 g2, Newer.trans h1.2.2 (Newer.of g3) h1.2.1.size⟩
theorem wpList_appN {ops : Array Oper} {rest : List Oper} {o : Oper} {a : Act} {Q : Exit → Act → World → Prop} {w : World} (hgd : o.guard = none) (s x : Operand)
    (ho : o.op = .call { callee := .builtin .append, args := #[s, x], argTypes := #[25, 25] }) {w1 : World} {A B : Option Addr} {c d : Nat} {l m : List UInt8}
    (h1 : RowN w1 w A c l) (hs : a.eval s = .slice A l.length c) (h2 : RowN w1 w B d m) (hx : a.eval x = .slice B m.length d) (hb : l.length + m.length ≤ 1000000)
    (h : ∀ A' c' L' w', Hid (L' = l ++ m) → RowN w1 w' A' c' L' → wpList Tryz.prog ops Q rest (a.put o.dst (.slice A' L'.length c')) w') : wpList Tryz.prog ops Q (o :: rest) a w := by
  refine wpList_app w hgd s x 25 25 ho elB h1.1 hs (Src.of_rd h2.1.rd (bs_one m) Tryz.underlying25) hx (by unfold maxLen; omega) (by omega) fun v' w' g1 g2 g3 => ?_
  obtain ⟨A', c', rfl, _, _⟩ := g1.form
  have e1 : l.length + m.length = (l ++ m).length := by rw [List.length_append]
  rw [e1, ← bs_append] at g1
  rw [e1] at g3 ⊢
  exact h A' c' (l ++ m) w' (Lib.hid rfl) ⟨g1, fr_no h1.2.1 h1.2.2 g2, Newer.trans h1.2.2 (Newer.of g3) h1.2.1.size⟩
def RetNE (w : World) (l : List UInt8) (k : Int) (e : Ending) (w' : World) : Prop := ∃ A c, e = .returned (.tuple #[.slice A l.length c, .int .i64 k]) ∧ Own w' 5 1 (.slice A l.length c) l.length (bs l) ∧ Fr No w w'
def RbRel (w1 : World) (o : Od) (bv iv : Value) (wr : World) : Prop := ∃ k A c l, k ≤ o.legs.length ∧ iv = .int .i64 (k : Nat) ∧ l = headB o ++ legsBy (o.legs.take k) ∧ bv = .slice A l.length c ∧ RowN w1 wr A c l
set_option maxRecDepth 100000 in
set_option maxHeartbeats 2000000 in
theorem refbytes_any (F : Nat → Prop) (o : Od) (v : Value) (w : World) (ho : o.ok) (hv : LgS w F v o.legs) (h100 : o.legs.length ≤ 100) :
    Calls Tryz.prog 35 #[o.val v] w (RetNE w (obL o) (obE o)) := by
  obtain ⟨ocl, osq, okd, oac, ope, osm, olg, opr, ohd, ont⟩ := o
  have HRI : Hid (∀ W, Fr No w W → Calls Tryz.prog 66 #[Od.val ⟨ocl, osq, okd, oac, ope, osm, olg, opr, ohd, ont⟩ v] W fun e w' => e = .returned (.bool (rightO ⟨ocl, osq, okd, oac, ope, osm, olg, opr, ohd, ont⟩)) ∧ Fr No W w') := fun W hW => refrightO_any F ⟨ocl, osq, okd, oac, ope, osm, olg, opr, ohd, ont⟩ v W ho (hv.no hW) h100
  have hv0 := hv
  obtain ⟨vA, vc, rfl, hlc, hcm⟩ := hv0.form
  unfold Od.val Od.cs at HRI ⊢
  obtain ⟨i1, i2, i3, z1, z2, i4, i5, i6, z3⟩ := ho
  have hb := Blk.new w 47 #[.int .i64 ocl, .int .i64 osq, .int .i64 okd, .string oac, .string ope, .int .i64 osm, .slice vA olg.length vc, .int .i64 opr, .int .i64 ohd, .string ont]
  have hf0 : Fr No w (w.alloc (.cells #[.int .i64 ocl, .int .i64 osq, .int .i64 okd, .string oac, .string ope, .int .i64 osm, .slice vA olg.length vc, .int .i64 opr, .int .i64 ohd, .string ont] 47)) := (Fr.refl _ _).alloc _
  simp only at HRI hv hlc i1 i2 i3 i4 i5 i6 z1 z2 z3 h100 ⊢
  have HCASE : Hid ((rightO ⟨ocl, osq, okd, oac, ope, osm, olg, opr, ohd, ont⟩ = false ∧ obL ⟨ocl, osq, okd, oac, ope, osm, olg, opr, ohd, ont⟩ = [] ∧ obE ⟨ocl, osq, okd, oac, ope, osm, olg, opr, ohd, ont⟩ = 1) ∨ (rightO ⟨ocl, osq, okd, oac, ope, osm, olg, opr, ohd, ont⟩ = true ∧ obL ⟨ocl, osq, okd, oac, ope, osm, olg, opr, ohd, ont⟩ = bytesO ⟨ocl, osq, okd, oac, ope, osm, olg, opr, ohd, ont⟩ ∧ obE ⟨ocl, osq, okd, oac, ope, osm, olg, opr, ohd, ont⟩ = 0 ∧ Short ⟨ocl, osq, okd, oac, ope, osm, olg, opr, ohd, ont⟩)) := by
    show _ ∨ _
    unfold obL obE
    cases h : rightO ⟨ocl, osq, okd, oac, ope, osm, olg, opr, ohd, ont⟩ with
    | false => left; simp
    | true => right; exact ⟨rfl, by simp, by simp, right_short h⟩
  generalize hOL : obL ⟨ocl, osq, okd, oac, ope, osm, olg, opr, ohd, ont⟩ = L at *
  generalize hOE : obE ⟨ocl, osq, okd, oac, ope, osm, olg, opr, ohd, ont⟩ = E at *
  clear hOL hOE
  generalize hRO : rightO ⟨ocl, osq, okd, oac, ope, osm, olg, opr, ohd, ont⟩ = R at *
  clear hRO
  go_enter Tryz.func35, Tryz.ntmps35
  go_upto_region 1 with (fail)
  have HF1 := Lib.hid hf0
  generalize hw1 : (w.alloc (.cells #[.int .i64 ocl, .int .i64 osq, .int .i64 okd, .string oac, .string ope, .int .i64 osm, .slice vA olg.length vc, .int .i64 opr, .int .i64 ohd, .string ont] 47)) = w1 at *
  clear hw1 hf0
  have x0 := hb.cell 0
  have x1 := hb.cell 1
  have x2 := hb.cell 2
  have x3 := hb.cell 3
  have x4 := hb.cell 4
  have x5 := hb.cell 5
  have x6 := hb.cell 6
  have x7 := hb.cell 7
  have x8 := hb.cell 8
  have x9 := hb.cell 9
  simp only [List.getElem?_toArray, List.getElem?_cons_zero, List.getElem?_cons_succ] at x0 x1 x2 x3 x4 x5 x6 x7 x8 x9
  rcases HCASE.out with ⟨rfl, rfl, rfl⟩ | ⟨rfl, e1, rfl, hsh⟩
  · clear HCASE
    go_wp2_with fail
    refine (HRI.out _ HF1.out).mono ?_
    rintro e w2 ⟨rfl, hf2⟩
    have HF2 := Lib.hid (HF1.out.trans hf2)
    go_wp2
    go_ret2
    exact ⟨none, 0, rfl, Own.nil _ _ _, HF2.out⟩
  have HEL := Lib.hid e1
  have HSH := Lib.hid hsh
  have HLV := Lib.hid hv
  have HB := Lib.hid hb
  clear HCASE e1 hsh hv hv0 hb
  go_wp2_with fail
  refine (HRI.out _ HF1.out).mono ?_
  rintro e w2 ⟨rfl, hf2⟩
  have HF2 := Lib.hid (HF1.out.trans hf2)
  have hb2 := HB.out.fr hf2 (fun h => h)
  have HX : Hid (∀ W, Fr No w2 W → (fun W => Fr No w2 W ∧ W.cell? ⟨w.heap.size, 0, none⟩ = some (.int .i64 ocl) ∧ W.cell? ⟨w.heap.size, 1, none⟩ = some (.int .i64 osq) ∧ W.cell? ⟨w.heap.size, 2, none⟩ = some (.int .i64 okd) ∧ W.cell? ⟨w.heap.size, 3, none⟩ = some (.string oac) ∧ W.cell? ⟨w.heap.size, 4, none⟩ = some (.string ope) ∧ W.cell? ⟨w.heap.size, 5, none⟩ = some (.int .i64 osm) ∧ W.cell? ⟨w.heap.size, 6, none⟩ = some (.slice vA olg.length vc) ∧ W.cell? ⟨w.heap.size, 7, none⟩ = some (.int .i64 opr) ∧ W.cell? ⟨w.heap.size, 8, none⟩ = some (.int .i64 ohd) ∧ W.cell? ⟨w.heap.size, 9, none⟩ = some (.string ont)) W) := fun W hW => by
    have h := hb2.fr hW (fun h => h)
    exact ⟨hW, h.cell 0, h.cell 1, h.cell 2, h.cell 3, h.cell 4, h.cell 5, h.cell 6, h.cell 7, h.cell 8, h.cell 9⟩
  have N1 := Lib.hid (fun W hf => refnumN ocl i1 w2 W hf)
  have N2 := Lib.hid (fun W hf => refnumN osq i2 w2 W hf)
  have N3 := Lib.hid (fun W hf => refnumN okd i3 w2 W hf)
  have N4 := Lib.hid (fun W hf => refTextN oac z1 (by have := HSH.out.acct; unfold Od.an at this; have e : oac.size = oac.data.toList.length := rfl; simp only at this; omega) w2 W hf)
  have N5 := Lib.hid (fun W hf => refTextN ope z2 (by have := HSH.out.peer; unfold Od.pn at this; have e : ope.size = ope.data.toList.length := rfl; simp only at this; omega) w2 W hf)
  have N6 := Lib.hid (fun W hf => refNumN osm i4 w2 W hf)
  have N7 := Lib.hid (fun W hf => refnumN (olg.length : Int) (by unfold In64; omega) w2 W hf)
  have N8 := Lib.hid (fun W hf => refnumN opr i5 w2 W hf)
  have N9 := Lib.hid (fun W hf => refnumN ohd i6 w2 W hf)
  have N10 := Lib.hid (fun W hf => refTextN ont z3 (by have := HSH.out.note; have e : ont.size = ont.data.toList.length := rfl; simp only at this; omega) w2 W hf)
  clear x0 x1 x2 x3 x4 x5 x6 x7 x8 x9 i1 i2 i3 i4 i5 i6 z1 z2 z3 hf2 hb2
  obtain ⟨_, x0, x1, x2, x3, x4, x5, x6, x7, x8, x9⟩ := HX.out w2 (Fr.refl _ _)
  have hww : Fr No w2 w2.drew := (Fr.refl _ _).drew
  have HLEN : Hid ((nB ocl).length ≤ 10 ∧ (nB osq).length ≤ 10 ∧ (nB okd).length ≤ 10 ∧ (tB oac.data.toList).length ≤ 18 ∧ (tB ope.data.toList).length ≤ 18 ∧ (nB osm).length ≤ 10 ∧ (nB (olg.length : Int)).length ≤ 10 ∧ (nB opr).length ≤ 10 ∧ (nB ohd).length ≤ 10 ∧ (tB ont.data.toList).length ≤ 30) := by
    have h1 := tB_len oac.data.toList
    have h2 := tB_len ope.data.toList
    have h3 := tB_len ont.data.toList
    have h4 := HSH.out.acct
    have h5 := HSH.out.peer
    have h6 := HSH.out.note
    unfold Od.an at h4
    unfold Od.pn at h5
    simp only at h4 h5 h6
    exact ⟨nB_len _, nB_len _, nB_len _, by omega, by omega, nB_len _, nB_len _, nB_len _, nB_len _, by omega⟩
  go_upto_region 3 with (fail)
  go_region_held_law (fun W => Fr No w2 W ∧ W.cell? ⟨w.heap.size, 0, none⟩ = some (.int .i64 ocl) ∧ W.cell? ⟨w.heap.size, 1, none⟩ = some (.int .i64 osq) ∧ W.cell? ⟨w.heap.size, 2, none⟩ = some (.int .i64 okd) ∧ W.cell? ⟨w.heap.size, 3, none⟩ = some (.string oac) ∧ W.cell? ⟨w.heap.size, 4, none⟩ = some (.string ope) ∧ W.cell? ⟨w.heap.size, 5, none⟩ = some (.int .i64 osm) ∧ W.cell? ⟨w.heap.size, 6, none⟩ = some (.slice vA olg.length vc) ∧ W.cell? ⟨w.heap.size, 7, none⟩ = some (.int .i64 opr) ∧ W.cell? ⟨w.heap.size, 8, none⟩ = some (.int .i64 ohd) ∧ W.cell? ⟨w.heap.size, 9, none⟩ = some (.string ont))
    (exact HX.out _ (by first | assumption | exact (Fr.refl _ _).drew)) (first
    | (go_at_call 67; (with_reducible refine (N1.out _ hww).mono ?_); rintro e u1 ⟨A1, c1, rfl, r1, f1⟩; have g1 := r1.2.1)
    | (go_at_call 67; (with_reducible refine (N2.out _ g1).mono ?_); rintro e u2 ⟨A2, c2, rfl, r2, f2⟩; have g2 := r2.2.1)
    | (go_at_call 67; (with_reducible refine (N3.out _ g3).mono ?_); rintro e u4 ⟨A4, c4, rfl, r4, f4⟩; have g4 := r4.2.1)
    | (have q1 := (r1.fr f2); have q2 := r2; refine step_appN rfl (.tmp 12) (.tmp 16) rfl q1 ?_ r2 ?_ (by have := HLEN.out; omega) ?_; exact rfl; exact rfl; clear q1 q2; intro A3 c3 L3 u3 e3 r3; have g3 := r3.2.1; have k3 := app_len e3)
    | (have q1 := (r3.fr f4); have q2 := r4; refine step_appN rfl (.tmp 17) (.tmp 20) rfl q1 ?_ r4 ?_ (by have := HLEN.out; have := k3.out; omega) ?_; exact rfl; exact rfl; clear q1 q2; intro A5 c5 L5 u5 e5 r5; have g5 := r5.2.1; have k5 := app_len e5))
  clear r1 f1 g1 r2 f2 g2 r3 g3 r4 f4 g4 hww x0 x1 x2 x3 x4 x5 x6 x7 x8 x9
  obtain ⟨_, y0, y1, y2, y3, y4, y5, y6, y7, y8, y9⟩ := HX.out u5 g5
  have R5 := Lib.hid r5
  have hww : Fr No w2 u5.drew := g5.drew
  have hdd : Fr No u5 u5.drew := (Fr.refl _ _).drew
  clear g5 r5
  go_upto_region 4 with (fail)
  go_region_held_law (fun W => Fr No w2 W ∧ W.cell? ⟨w.heap.size, 0, none⟩ = some (.int .i64 ocl) ∧ W.cell? ⟨w.heap.size, 1, none⟩ = some (.int .i64 osq) ∧ W.cell? ⟨w.heap.size, 2, none⟩ = some (.int .i64 okd) ∧ W.cell? ⟨w.heap.size, 3, none⟩ = some (.string oac) ∧ W.cell? ⟨w.heap.size, 4, none⟩ = some (.string ope) ∧ W.cell? ⟨w.heap.size, 5, none⟩ = some (.int .i64 osm) ∧ W.cell? ⟨w.heap.size, 6, none⟩ = some (.slice vA olg.length vc) ∧ W.cell? ⟨w.heap.size, 7, none⟩ = some (.int .i64 opr) ∧ W.cell? ⟨w.heap.size, 8, none⟩ = some (.int .i64 ohd) ∧ W.cell? ⟨w.heap.size, 9, none⟩ = some (.string ont))
    (exact HX.out _ (by first | assumption | exact (Fr.refl _ _).drew)) (first
    | (go_at_call 36; (with_reducible refine (N4.out _ hww).mono ?_); rintro e u6 ⟨A6, c6, rfl, r6, f6⟩; have g6 := r6.2.1)
    | (go_at_call 36; (with_reducible refine (N5.out _ g7).mono ?_); rintro e u8 ⟨A8, c8, rfl, r8, f8⟩; have g8 := r8.2.1)
    | (have q1 := ((R5.out.fr hdd).fr f6); have q2 := r6; refine step_appN rfl (.tmp 22) (.tmp 25) rfl q1 ?_ q2 ?_ (by have := HLEN.out; have := k3.out; have := k5.out; omega) ?_; exact rfl; exact rfl; clear q1 q2; intro A7 c7 L7 u7 e7 r7; have g7 := r7.2.1; have k7 := app_len e7)
    | (have q1 := (r7.fr f8); have q2 := r8; refine step_appN rfl (.tmp 26) (.tmp 29) rfl q1 ?_ q2 ?_ (by have := HLEN.out; have := k3.out; have := k5.out; have := k7.out; omega) ?_; exact rfl; exact rfl; clear q1 q2; intro A9 c9 L9 u9 e9 r9; have g9 := r9.2.1; have k9 := app_len e9))
  clear r6 f6 g6 r7 g7 r8 f8 g8 hww hdd y0 y1 y2 y3 y4 y5 y6 y7 y8 y9
  obtain ⟨_, y0, y1, y2, y3, y4, y5, y6, y7, y8, y9⟩ := HX.out u9 g9
  have R9 := Lib.hid r9
  have hww : Fr No w2 u9.drew := g9.drew
  have hdd : Fr No u9 u9.drew := (Fr.refl _ _).drew
  clear g9 r9
  go_upto_region 5 with (fail)
  go_region_held_law (fun W => Fr No w2 W ∧ W.cell? ⟨w.heap.size, 0, none⟩ = some (.int .i64 ocl) ∧ W.cell? ⟨w.heap.size, 1, none⟩ = some (.int .i64 osq) ∧ W.cell? ⟨w.heap.size, 2, none⟩ = some (.int .i64 okd) ∧ W.cell? ⟨w.heap.size, 3, none⟩ = some (.string oac) ∧ W.cell? ⟨w.heap.size, 4, none⟩ = some (.string ope) ∧ W.cell? ⟨w.heap.size, 5, none⟩ = some (.int .i64 osm) ∧ W.cell? ⟨w.heap.size, 6, none⟩ = some (.slice vA olg.length vc) ∧ W.cell? ⟨w.heap.size, 7, none⟩ = some (.int .i64 opr) ∧ W.cell? ⟨w.heap.size, 8, none⟩ = some (.int .i64 ohd) ∧ W.cell? ⟨w.heap.size, 9, none⟩ = some (.string ont))
    (exact HX.out _ (by first | assumption | exact (Fr.refl _ _).drew)) (first
    | (go_at_call 34; (with_reducible refine (N6.out _ hww).mono ?_); rintro e u10 ⟨A10, c10, rfl, r10, f10⟩; have g10 := r10.2.1)
    | (go_at_call 67; (with_reducible refine (N7.out _ g11).mono ?_); rintro e u12 ⟨A12, c12, rfl, r12, f12⟩; have g12 := r12.2.1)
    | (have q1 := ((R9.out.fr hdd).fr f10); have q2 := r10; refine step_appN rfl (.tmp 31) (.tmp 34) rfl q1 ?_ q2 ?_ (by have := HLEN.out; have := k3.out; have := k5.out; have := k7.out; have := k9.out; omega) ?_; exact rfl; exact rfl; clear q1 q2; intro A11 c11 L11 u11 e11 r11; have g11 := r11.2.1; have k11 := app_len e11)
    | (have q1 := (r11.fr f12); have q2 := r12; refine step_appN rfl (.tmp 35) (.tmp 39) rfl q1 ?_ q2 ?_ (by have := HLEN.out; have := k3.out; have := k5.out; have := k7.out; have := k9.out; have := k11.out; omega) ?_; exact rfl; exact rfl; clear q1 q2; intro A13 c13 L13 u13 e13 r13; have g13 := r13.2.1; have k13 := app_len e13))
  clear r10 f10 g10 r11 g11 r12 f12 g12 hww hdd y0 y1 y2 y3 y4 y5 y6 y7 y8 y9
  have HHD : Hid (L13 = headB ⟨ocl, osq, okd, oac, ope, osm, olg, opr, ohd, ont⟩) := by
    show _ = _
    rw [e13.out, e11.out, e9.out, e7.out, e5.out, e3.out]
    unfold headB
    simp only [flatB_cons, flatB_nil, List.append_nil, List.append_assoc]
    rfl
  have R13 := Lib.hid r13
  clear e3 e5 e7 e9 e11 e13 k3 k5 k7 k9 k11 k13 r13 g13
  go_wp2_with fail
  go_loopw [4, 5] (fun bv iv wr => RbRel w2 ⟨ocl, osq, okd, oac, ope, osm, olg, opr, ohd, ont⟩ bv iv wr) (fun _ iv _ => olg.length - (intOf iv).toNat)
  case atStart => exact ⟨0, A13, c13, L13, Nat.zero_le _, rfl, by rw [HHD.out, List.take_zero]; exact (List.append_nil _).symm, rfl, R13.out⟩
  case round =>
    obtain ⟨k, Ab, cb, l, hk, rfl, hl, rfl, hrow⟩ := hrel
    simp only at hk hl
    have hk62 : (k : Int) < 9223372036854775807 := by omega
    have HLK : Hid (l.length ≤ 106 + 28 * k) := by
      show _ ≤ _
      rw [hl, List.length_append]
      have h1 := head_len HSH.out
      have h2 := legsBy_len (L := olg.take k) (fun g hg => HSH.out.each g (List.mem_of_mem_take hg))
      rw [List.length_take] at h2
      have : min k olg.length = k := by omega
      rw [this] at h2
      omega
    have HLL := Lib.hid hl
    have HROW := Lib.hid hrow
    have hg := hrow.2.1
    have hl6 : olg.length ≤ 6 := HSH.out.legs
    obtain ⟨_, y0, y1, y2, y3, y4, y5, y6, y7, y8, y9⟩ := HX.out wr hg
    clear hl hrow
    by_cases hlt : k < olg.length
    · obtain ⟨VA, vcc, cells, e0, hr, hE, _, _⟩ := HLV.out.no HF2.out
      cases e0
      obtain ⟨ad, rfl, _, hok, q0, q1⟩ := lg_at hr hE k hlt hlt
      have hn8 := HSH.out.each olg[k] (List.getElem_mem hlt)
      have HNX : Hid (headB ⟨ocl, osq, okd, oac, ope, osm, olg, opr, ohd, ont⟩ ++ legsBy (olg.take (k + 1)) = l ++ legBy olg[k]) := by
        show _ = _
        rw [HLL.out, legsBy_take hlt, List.append_assoc]
      generalize olg[k] = g at *
      obtain ⟨nm, sm⟩ := g
      unfold Lg.ok at hok
      unfold Lg.nm at hn8
      simp only at q0 q1 hok hn8
      have NT := Lib.hid (fun W hf => refTextN nm hok.1 (by have : nm.size = nm.data.toList.length := rfl; omega) w2 W hf)
      have NN := Lib.hid (fun W hf => refNumN sm hok.2 w2 W hf)
      have HLB : Hid ((tB nm.data.toList).length ≤ 18 ∧ (nB sm).length ≤ 10) := ⟨by have := tB_len nm.data.toList; omega, nB_len _⟩
      have HZ : Hid (∀ W, Fr No w2 W → (fun W => Fr No w2 W ∧ W.cell? ⟨w.heap.size, 6, none⟩ = some (.slice (some ad) olg.length vc) ∧ W.cell? (ad.add (k * 2)) = some (.string nm) ∧ W.cell? ⟨(ad.add (k * 2)).block, (ad.add (k * 2)).off + 1, none⟩ = some (.int .i64 sm)) W) := fun W hW => ⟨hW, (HX.out W hW).2.2.2.2.2.2.2.1, hW.cell_some q0 (fun h => h), hW.cell_some q1 (fun h => h)⟩
      clear q0 q1
      obtain ⟨_, _, q0, q1⟩ := HZ.out wr hg
      have hww : Fr No w2 wr.drew := hg.drew
      have hdd : Fr No wr wr.drew := (Fr.refl _ _).drew
      have HLT : Hid (k + 1 ≤ olg.length) := hlt
      clear hok hn8 hr hE hg y0 y1 y2 y3 y4 y5 y7 y8 y9
      go_upto_region 9 with (fail)
      go_region_held_law (fun W => Fr No w2 W ∧ W.cell? ⟨w.heap.size, 6, none⟩ = some (.slice (some ad) olg.length vc) ∧ W.cell? (ad.add (k * 2)) = some (.string nm) ∧ W.cell? ⟨(ad.add (k * 2)).block, (ad.add (k * 2)).off + 1, none⟩ = some (.int .i64 sm))
        (exact HZ.out _ (by first | assumption | exact (Fr.refl _ _).drew)) (first
          | (go_at_call 36; (with_reducible refine (NT.out _ hww).mono ?_); rintro e u1 ⟨A1, c1, rfl, r1, f1⟩; have g1 := r1.2.1)
          | (go_at_call 34; (with_reducible refine (NN.out _ g2).mono ?_); rintro e u3 ⟨A3, c3, rfl, r3, f3⟩; have g3 := r3.2.1)
          | (have q1 := ((HROW.out.fr hdd).fr f1); have q2 := r1; refine step_appN rfl (.tmp 48) (.tmp 55) rfl q1 ?_ q2 ?_ (by have := HLK.out; have := HLB.out; omega) ?_; exact rfl; exact rfl; clear q1 q2; intro A2 c2 L2 u2 e2 r2; have g2 := r2.2.1; have k2 := app_len e2)
          | (have q1 := (r2.fr f3); have q2 := r3; refine step_appN rfl (.tmp 56) (.tmp 63) rfl q1 ?_ q2 ?_ (by have := HLK.out; have := HLB.out; have := k2.out; omega) ?_; exact rfl; exact rfl; clear q1 q2; intro A4 c4 L4 u4 e4 r4; have g4 := r4.2.1; have k4 := app_len e4))
      have R4 := Lib.hid r4
      have HL4 : Hid (L4 = headB ⟨ocl, osq, okd, oac, ope, osm, olg, opr, ohd, ont⟩ ++ legsBy (olg.take (k + 1))) := by
        show _ = _
        rw [HNX.out, e4.out, e2.out]
        unfold legBy Lg.nm
        simp only [List.append_assoc]
      clear r1 f1 g1 r2 g2 r3 f3 g3 r4 g4 hww hdd q0 q1
      simp only [List.getElem_toArray, List.getElem_cons_zero, List.getElem_cons_succ]
      go_wp2
      go_roundw
      case rel => exact ⟨k + 1, A4, c4, L4, HLT.out, by go_num, HL4.out, rfl, R4.out⟩
      case measure => have := HLT.out; simp [intOf]; omega
    · obtain rfl : k = olg.length := by omega
      have hww : Fr No w2 wr.drew := hg.drew
      have hdd : Fr No wr wr.drew := (Fr.refl _ _).drew
      clear hg hlt
      go_upto_region 10 with (fail)
      go_region_held_law (fun W => Fr No w2 W ∧ W.cell? ⟨w.heap.size, 0, none⟩ = some (.int .i64 ocl) ∧ W.cell? ⟨w.heap.size, 1, none⟩ = some (.int .i64 osq) ∧ W.cell? ⟨w.heap.size, 2, none⟩ = some (.int .i64 okd) ∧ W.cell? ⟨w.heap.size, 3, none⟩ = some (.string oac) ∧ W.cell? ⟨w.heap.size, 4, none⟩ = some (.string ope) ∧ W.cell? ⟨w.heap.size, 5, none⟩ = some (.int .i64 osm) ∧ W.cell? ⟨w.heap.size, 6, none⟩ = some (.slice vA olg.length vc) ∧ W.cell? ⟨w.heap.size, 7, none⟩ = some (.int .i64 opr) ∧ W.cell? ⟨w.heap.size, 8, none⟩ = some (.int .i64 ohd) ∧ W.cell? ⟨w.heap.size, 9, none⟩ = some (.string ont))
        (exact HX.out _ (by first | assumption | exact (Fr.refl _ _).drew)) (first
          | (go_at_call 67; (with_reducible refine (N8.out _ hww).mono ?_); rintro e u1 ⟨A1, c1, rfl, r1, f1⟩; have g1 := r1.2.1)
          | (go_at_call 67; (with_reducible refine (N9.out _ g2).mono ?_); rintro e u3 ⟨A3, c3, rfl, r3, f3⟩; have g3 := r3.2.1)
          | (have q1 := ((HROW.out.fr hdd).fr f1); have q2 := r1; refine step_appN rfl (.tmp 65) (.tmp 68) rfl q1 ?_ q2 ?_ (by have := HLK.out; have := HLEN.out; omega) ?_; exact rfl; exact rfl; clear q1 q2; intro A2 c2 L2 u2 e2 r2; have g2 := r2.2.1; have k2 := app_len e2)
          | (have q1 := (r2.fr f3); have q2 := r3; refine step_appN rfl (.tmp 69) (.tmp 72) rfl q1 ?_ q2 ?_ (by have := HLK.out; have := HLEN.out; have := k2.out; omega) ?_; exact rfl; exact rfl; clear q1 q2; intro A4 c4 L4 u4 e4 r4; have g4 := r4.2.1; have k4 := app_len e4))
      have R4 := Lib.hid r4
      have K4 := Lib.hid k4.out
      clear k4
      obtain ⟨_, z0, z1, z2, z3, z4, z5, z6, z7, z8, z9⟩ := HX.out u4 g4
      clear r1 f1 g1 r2 g2 r3 f3 g3 r4 hww hdd y0 y1 y2 y3 y4 y5 y6 y7 y8 y9 z0 z1 z2 z3 z4 z5 z6 z7 z8
      go_upto_region 11 with (fail)
      go_wp2_with fail
      refine (N10.out _ g4).mono ?_
      rintro e u5 ⟨A5, c5, rfl, r5, f5⟩
      have HRQ := Lib.hid (R4.out.fr f5)
      have HR5 := Lib.hid r5
      have HBD : Hid (L4.length + (tB ont.data.toList).length ≤ 1000000) := by
        have := HLK.out
        have := HLEN.out
        have := k2.out
        have := K4.out
        show _ ≤ _
        omega
      clear r5 f5 g4
      go_wp2_with (at_builtin; refine wpList_appN rfl (.tmp 74) (.tmp 77) rfl HRQ.out rfl HR5.out rfl HBD.out ?_; intro A6 c6 L6 u6 e6 r6)
      obtain rfl : L6 = L := by
        rw [HEL.out, e6.out, e4.out, e2.out, HLL.out, List.take_length]
        unfold bytesO tailB
        simp only [List.append_assoc]
      go_ret2
      exact ⟨A6, c6, rfl, r6.1, HF2.out.trans r6.2.1⟩
end Go.Proofs.YtnphncemghfkbaaGreat
