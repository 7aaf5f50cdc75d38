/- Contracts of package order: Right. What a book tells of an order, and what it has behind it: in lists. Of no walk. Orders that do not clash may change places: the same is told of each, and the book is the same. In lists, of no walk. Texts in order, each once: of no program. slices.DeleteFunc, Sort and Compact of strings, of rows of the call's own. append(nil, make(..)...): of no program. -/
import Derived.Test.YtlanhclgbkhdlaaGreatQ09
import Derived.Test.YtlanhclgbkhdlaaGreatQ08
import Derived.Test.YtlanhclgbkhdlaaGreatQ01
import Derived.Sort.EncStr
import Derived.Sort.Grow
import Derived.Lib.SlicesCompact
import Derived.Lib.RowBridge
import Derived.Test.YtlanhclgbkhdlaaGreatStrF
import Derived.Test.YtlanhclgbkhdlaaGreatQ02
namespace Go.Proofs.YtlanhclgbkhdlaaGreat
open Go.RowKit Go.My Go.Maps
set_option linter.unusedSimpArgs false
set_option linter.unusedVariables false
attribute [local go_sem ↓] Go.wp_at_zero Go.wp_at_succ

def Od.val (o : Od) (v : Value) : Value := .agg (o.cs v).toArray
/-- the functions of a kind's fields are asked one after another -/
structure Asks (o : Od) (v : Value) (w : World) (c0 c1 c2 c3 c4 c5 c6 : FuncId) (b0 b1 b2 b3 b4 b5 b6 : Bool) : Prop where
  a0 : AnsB c0 #[.string o.acct] b0
  a1 : AnsB c1 #[.string o.peer, .string o.acct] b1
  a2 : AnsB c2 #[.int .i64 o.sum] b2
  a3 : ∀ W, Fr No w W → Calls Tryz.prog c3 #[v] W fun e w' => e = .returned (.bool b3) ∧ Fr No W w'
  a4 : AnsB c4 #[.int .i64 o.per] b4
  a5 : AnsB c5 #[.int .i64 o.hold] b5
  a6 : AnsB c6 #[.string o.note] b6
  e0 : ∀ args W, (callFunc c0 args).run Tryz.prog W = .ok (.enter c0 args) W
  e1 : ∀ args W, (callFunc c1 args).run Tryz.prog W = .ok (.enter c1 args) W
  e2 : ∀ args W, (callFunc c2 args).run Tryz.prog W = .ok (.enter c2 args) W
  e3 : ∀ args W, (callFunc c3 args).run Tryz.prog W = .ok (.enter c3 args) W
  e4 : ∀ args W, (callFunc c4 args).run Tryz.prog W = .ok (.enter c4 args) W
  e5 : ∀ args W, (callFunc c5 args).run Tryz.prog W = .ok (.enter c5 args) W
  e6 : ∀ args W, (callFunc c6 args).run Tryz.prog W = .ok (.enter c6 args) W
set_option maxRecDepth 100000 in
set_option maxHeartbeats 4000000 in
theorem right_some {o : Od} {v : Value} {w : World} {c0 c1 c2 c3 c4 c5 c6 : FuncId} {b0 b1 b2 b3 b4 b5 b6 : Bool} (ho : o.ok) (hk : shapeF o.kd = some (.agg (shp c0 c1 c2 c3 c4 c5 c6))) (hA : Asks o v w c0 c1 c2 c3 c4 c5 c6 b0 b1 b2 b3 b4 b5 b6) :
    Calls Tryz.prog 47 #[o.val v] w fun e w' => e = .returned (.bool (idB o.cl o.sq && (b0 && (b1 && (b2 && (b3 && (b4 && (b5 && b6)))))))) ∧ Fr No w w' := by
  have HA := Lib.hid hA
  have HID := Lib.hid (ansId o.cl o.sq)
  have HBX := Lib.hid (Blk.new w 31 (o.cs v).toArray)
  have HO := Lib.hid ho
  have HK := Lib.hid hk
  clear ho hk hA
  unfold Od.val
  obtain ⟨ocl, osq, okd, oac, ope, osm, olg, opr, ohd, ont⟩ := o
  unfold Od.cs at *
  go_enter Tryz.func47, Tryz.ntmps47
  go_wp2
  refine rg1_some (o := ⟨ocl, osq, okd, oac, ope, osm, olg, opr, ohd, ont⟩) (v := v) HO.out.2.2.1 HBX.out HK.out fun p v5 v6 v7 v8 v9 v10 v11 w2 hbp hf2 => ?_
  unfold rgF
  have HF2 : Hid (Fr No w w2) := ((Fr.refl No w).alloc _).trans hf2
  have hbx := HBX.out.fr hf2 (fun h => h)
  have HBX2 := Lib.hid hbx
  have HBP := Lib.hid hbp
  have HX : Hid (∀ W, Fr No w2 W → W.cell? ⟨w.heap.size, 0, none⟩ = some (.int .i64 ocl) ∧ W.cell? ⟨w.heap.size, 1, none⟩ = some (.int .i64 osq) ∧ W.cell? ⟨w.heap.size, 3, none⟩ = some (.string oac) ∧ W.cell? ⟨w.heap.size, 4, none⟩ = some (.string ope) ∧ W.cell? ⟨w.heap.size, 5, none⟩ = some (.int .i64 osm) ∧ W.cell? ⟨w.heap.size, 6, none⟩ = some v ∧ W.cell? ⟨w.heap.size, 7, none⟩ = some (.int .i64 opr) ∧ W.cell? ⟨w.heap.size, 8, none⟩ = some (.int .i64 ohd) ∧ W.cell? ⟨w.heap.size, 9, none⟩ = some (.string ont)) := fun W hW => by
    have h := HBX2.out.fr hW (fun h => h)
    exact ⟨h.cell 0, h.cell 1, h.cell 3, h.cell 4, h.cell 5, h.cell 6, h.cell 7, h.cell 8, h.cell 9⟩
  have HP : Hid (∀ W, Fr No w2 W → W.cell? ⟨p, 0, none⟩ = some (.func (.func c0) #[] #[]) ∧ W.cell? ⟨p, 1, none⟩ = some (.func (.func c1) #[] #[]) ∧ W.cell? ⟨p, 2, none⟩ = some (.func (.func c2) #[] #[]) ∧ W.cell? ⟨p, 3, none⟩ = some (.func (.func c3) #[] #[]) ∧ W.cell? ⟨p, 4, none⟩ = some (.func (.func c4) #[] #[]) ∧ W.cell? ⟨p, 5, none⟩ = some (.func (.func c5) #[] #[]) ∧ W.cell? ⟨p, 6, none⟩ = some (.func (.func c6) #[] #[])) := fun W hW => by
    have h := HBP.out.fr hW (fun h => h)
    exact ⟨h.cell 0, h.cell 1, h.cell 2, h.cell 3, h.cell 4, h.cell 5, h.cell 6⟩
  clear hbp hf2 hbx HBX HBX2 HBP HK HO
  have a0 := HA.out.a0
  have a1 := HA.out.a1
  have a2 := HA.out.a2
  have a3 := HA.out.a3
  have a4 := HA.out.a4
  have a5 := HA.out.a5
  have a6 := HA.out.a6
  simp only at a0 a1 a2 a3 a4 a5 a6
  have A0 := Lib.hid a0
  have A1 := Lib.hid a1
  have A2 := Lib.hid a2
  have A3 := Lib.hid a3
  have A4 := Lib.hid a4
  have A5 := Lib.hid a5
  have A6 := Lib.hid a6
  have e0 := HA.out.e0
  have e1 := HA.out.e1
  have e2 := HA.out.e2
  have e3 := HA.out.e3
  have e4 := HA.out.e4
  have e5 := HA.out.e5
  have e6 := HA.out.e6
  clear a0 a1 a2 a3 a4 a5 a6 HA
  obtain ⟨x0, x1, x3, x4, x5, x6, x7, x8, x9⟩ := HX.out _ (Fr.refl No w2)
  go_wp2_with fail
  refine (HID.out _).mono ?_
  rintro e u0 ⟨rfl, hg0⟩
  have HG0 := Lib.hid hg0
  clear hg0 x0 x1 x3 x4 x5 x6 x7 x8 x9
  cases hi : idB ocl osq
  · clear e0 e1 e2 e3 e4 e5 e6
    go_wp2
    go_ret
    exact ⟨by rw [hi]; rfl, HF2.out.trans HG0.out⟩
  obtain ⟨x0, x1, x3, x4, x5, x6, x7, x8, x9⟩ := HX.out _ HG0.out
  obtain ⟨y0, y1, y2, y3, y4, y5, y6⟩ := HP.out _ HG0.out
  go_wp2_with fail
  refine (A0.out _).mono ?_
  rintro e u1 ⟨rfl, hg1⟩
  have HG1 := Lib.hid (HG0.out.trans hg1)
  clear hg1 x0 x1 x3 x4 x5 x6 x7 x8 x9 y0 y1 y2 y3 y4 y5 y6
  cases b0
  · clear e0 e1 e2 e3 e4 e5 e6
    go_wp2
    go_ret
    exact ⟨by rw [hi]; rfl, HF2.out.trans HG1.out⟩
  obtain ⟨x0, x1, x3, x4, x5, x6, x7, x8, x9⟩ := HX.out _ HG1.out
  obtain ⟨y0, y1, y2, y3, y4, y5, y6⟩ := HP.out _ HG1.out
  go_wp2_with fail
  refine (A1.out _).mono ?_
  rintro e u2 ⟨rfl, hg2⟩
  have HG2 := Lib.hid (HG1.out.trans hg2)
  clear hg2 x0 x1 x3 x4 x5 x6 x7 x8 x9 y0 y1 y2 y3 y4 y5 y6
  cases b1
  · clear e0 e1 e2 e3 e4 e5 e6
    go_wp2
    go_ret
    exact ⟨by rw [hi]; rfl, HF2.out.trans HG2.out⟩
  obtain ⟨x0, x1, x3, x4, x5, x6, x7, x8, x9⟩ := HX.out _ HG2.out
  obtain ⟨y0, y1, y2, y3, y4, y5, y6⟩ := HP.out _ HG2.out
  go_wp2_with fail
  refine (A2.out _).mono ?_
  rintro e u3 ⟨rfl, hg3⟩
  have HG3 := Lib.hid (HG2.out.trans hg3)
  clear hg3 x0 x1 x3 x4 x5 x6 x7 x8 x9 y0 y1 y2 y3 y4 y5 y6
  cases b2
  · clear e0 e1 e2 e3 e4 e5 e6
    go_wp2
    go_ret
    exact ⟨by rw [hi]; rfl, HF2.out.trans HG3.out⟩
  obtain ⟨x0, x1, x3, x4, x5, x6, x7, x8, x9⟩ := HX.out _ HG3.out
  obtain ⟨y0, y1, y2, y3, y4, y5, y6⟩ := HP.out _ HG3.out
  go_wp2_with fail
  refine (A3.out _ (HF2.out.trans HG3.out)).mono ?_
  rintro e u4 ⟨rfl, hg4⟩
  have HG4 := Lib.hid (HG3.out.trans hg4)
  clear hg4 x0 x1 x3 x4 x5 x6 x7 x8 x9 y0 y1 y2 y3 y4 y5 y6
  cases b3
  · clear e0 e1 e2 e3 e4 e5 e6
    go_wp2
    go_ret
    exact ⟨by rw [hi]; rfl, HF2.out.trans HG4.out⟩
  obtain ⟨x0, x1, x3, x4, x5, x6, x7, x8, x9⟩ := HX.out _ HG4.out
  obtain ⟨y0, y1, y2, y3, y4, y5, y6⟩ := HP.out _ HG4.out
  go_wp2_with fail
  refine (A4.out _).mono ?_
  rintro e u5 ⟨rfl, hg5⟩
  have HG5 := Lib.hid (HG4.out.trans hg5)
  clear hg5 x0 x1 x3 x4 x5 x6 x7 x8 x9 y0 y1 y2 y3 y4 y5 y6
  cases b4
  · clear e0 e1 e2 e3 e4 e5 e6
    go_wp2
    go_ret
    exact ⟨by rw [hi]; rfl, HF2.out.trans HG5.out⟩
  obtain ⟨x0, x1, x3, x4, x5, x6, x7, x8, x9⟩ := HX.out _ HG5.out
  obtain ⟨y0, y1, y2, y3, y4, y5, y6⟩ := HP.out _ HG5.out
  go_wp2_with fail
  refine (A5.out _).mono ?_
  rintro e u6 ⟨rfl, hg6⟩
  have HG6 := Lib.hid (HG5.out.trans hg6)
  clear hg6 x0 x1 x3 x4 x5 x6 x7 x8 x9 y0 y1 y2 y3 y4 y5 y6
  cases b5
  · clear e0 e1 e2 e3 e4 e5 e6
    go_wp2
    go_ret
    exact ⟨by rw [hi]; rfl, HF2.out.trans HG6.out⟩
  obtain ⟨x0, x1, x3, x4, x5, x6, x7, x8, x9⟩ := HX.out _ HG6.out
  obtain ⟨y0, y1, y2, y3, y4, y5, y6⟩ := HP.out _ HG6.out
  go_wp2_with fail
  refine (A6.out _).mono ?_
  rintro e u7 ⟨rfl, hg7⟩
  have HG7 := Lib.hid (HG6.out.trans hg7)
  clear hg7 x0 x1 x3 x4 x5 x6 x7 x8 x9 y0 y1 y2 y3 y4 y5 y6
  clear e0 e1 e2 e3 e4 e5 e6
  go_wp2
  go_ret
  exact ⟨by rw [hi]; rfl, HF2.out.trans HG7.out⟩
set_option maxRecDepth 100000 in
set_option maxHeartbeats 4000000 in
theorem right_none {o : Od} {v : Value} {w : World} (ho : o.ok) (hk : shapeF o.kd = none) :
    Calls Tryz.prog 47 #[o.val v] w fun e w' => e = .returned (.bool false) ∧ Fr No w w' := by
  have HBX := Lib.hid (Blk.new w 31 (o.cs v).toArray)
  have HO := Lib.hid ho
  have HK := Lib.hid hk
  clear ho hk
  unfold Od.val
  obtain ⟨ocl, osq, okd, oac, ope, osm, olg, opr, ohd, ont⟩ := o
  unfold Od.cs at *
  go_enter Tryz.func47, Tryz.ntmps47
  go_wp2
  refine rg1_none (o := ⟨ocl, osq, okd, oac, ope, osm, olg, opr, ohd, ont⟩) (v := v) HO.out.2.2.1 HBX.out HK.out fun p v5 v6 v7 v8 v9 v10 v11 w2 hf2 => ?_
  unfold rgF
  have HF2 : Hid (Fr No w w2) := ((Fr.refl No w).alloc _).trans hf2
  clear hf2 HBX HK HO
  go_wp2
  go_ret
  exact ⟨rfl, HF2.out⟩

theorem k_name (args : Array Value) (W : World) : (callFunc 30 args).run Tryz.prog W = .ok (.enter 30 args) W := by kernel_rfl
theorem k_1 (args : Array Value) (W : World) : (callFunc 83 args).run Tryz.prog W = .ok (.enter 83 args) W := by kernel_rfl
theorem k_2 (args : Array Value) (W : World) : (callFunc 84 args).run Tryz.prog W = .ok (.enter 84 args) W := by kernel_rfl
theorem k_3 (args : Array Value) (W : World) : (callFunc 85 args).run Tryz.prog W = .ok (.enter 85 args) W := by kernel_rfl
theorem k_4 (args : Array Value) (W : World) : (callFunc 86 args).run Tryz.prog W = .ok (.enter 86 args) W := by kernel_rfl
theorem k_5 (args : Array Value) (W : World) : (callFunc 87 args).run Tryz.prog W = .ok (.enter 87 args) W := by kernel_rfl
theorem k_6 (args : Array Value) (W : World) : (callFunc 88 args).run Tryz.prog W = .ok (.enter 88 args) W := by kernel_rfl
theorem k_7 (args : Array Value) (W : World) : (callFunc 89 args).run Tryz.prog W = .ok (.enter 89 args) W := by kernel_rfl
theorem k_8 (args : Array Value) (W : World) : (callFunc 90 args).run Tryz.prog W = .ok (.enter 90 args) W := by kernel_rfl
theorem k_legs (args : Array Value) (W : World) : (callFunc 91 args).run Tryz.prog W = .ok (.enter 91 args) W := by kernel_rfl
theorem k_per (args : Array Value) (W : World) : (callFunc 92 args).run Tryz.prog W = .ok (.enter 92 args) W := by kernel_rfl
theorem k_hold (args : Array Value) (W : World) : (callFunc 96 args).run Tryz.prog W = .ok (.enter 96 args) W := by kernel_rfl
theorem k_note (args : Array Value) (W : World) : (callFunc 93 args).run Tryz.prog W = .ok (.enter 93 args) W := by kernel_rfl
theorem k_sum (args : Array Value) (W : World) : (callFunc 94 args).run Tryz.prog W = .ok (.enter 94 args) W := by kernel_rfl
theorem k_peer (args : Array Value) (W : World) : (callFunc 95 args).run Tryz.prog W = .ok (.enter 95 args) W := by kernel_rfl

/-- which orders may be -/
theorem rightO_any (F : Nat → Prop) (o : Od) (v : Value) (w : World) (ho : o.ok) (hv : LgS w F v o.legs) :
    Calls Tryz.prog 47 #[o.val v] w fun e w' => e = .returned (.bool (rightO o)) ∧ Fr No w w' := by
  have hLg : ∀ W, Fr No w W → Calls Tryz.prog 91 #[v] W fun e w' => e = .returned (.bool (rightB o.legs)) ∧ Fr No W w' := fun W hW => by
    obtain ⟨A, c, cells, rfl, hr, hE, h1, h2⟩ := hv.no hW
    exact rightLegs_any F A c cells o.legs W hr hE h1 h2
  have hL4 : ∀ W, Fr No w W → Calls Tryz.prog 86 #[v] W fun e w' => e = .returned (.bool (o.legs.length == 0)) ∧ Fr No W w' := fun W hW => by
    obtain ⟨A, c, cells, rfl, hr, hE, h1, h2⟩ := hv
    exact ans4 A o.legs.length c W
  have hName := ansName o.acct ho.2.2.2.1
  have hPeer := ansPeer o.peer o.acct ho.2.2.2.2.1
  by_cases hk : 1 ≤ o.kd ∧ o.kd ≤ 7
  · have e1 : decide (1 ≤ o.kd) = true := decide_eq_true hk.1
    have e2 : decide (o.kd ≤ 7) = true := decide_eq_true hk.2
    unfold rightO
    rw [e1, e2, Bool.true_and, Bool.true_and]
    have h7 : o.kd = 1 ∨ o.kd = 2 ∨ o.kd = 3 ∨ o.kd = 4 ∨ o.kd = 5 ∨ o.kd = 6 ∨ o.kd = 7 := by omega
    unfold acctB peerB sumB legsB perB holdB noteB
    rcases h7 with h | h | h | h | h | h | h <;> simp only [h, Int.reduceEq, if_true, if_false, or_true, true_or, or_false, or_self, false_or]
    · exact right_some ho (by rw [h]; rfl) ⟨hName, ans2 _ _, ans8 _, hL4, ans5 _, ans6 _, ans7 _, k_name, k_2, k_8, k_4, k_5, k_6, k_7⟩
    · exact right_some ho (by rw [h]; rfl) ⟨ans1 _, ans2 _ _, ans3 _, hLg, ansPeriod _, ans6 _, ansNote _, k_1, k_2, k_3, k_legs, k_per, k_6, k_note⟩
    · exact right_some ho (by rw [h]; rfl) ⟨hName, ans2 _ _, ansSum _, hL4, ans5 _, ans6 _, ans7 _, k_name, k_2, k_sum, k_4, k_5, k_6, k_7⟩
    · exact right_some ho (by rw [h]; rfl) ⟨hName, hPeer, ansSum _, hL4, ansPeriod _, ansHold _, ans7 _, k_name, k_peer, k_sum, k_4, k_per, k_hold, k_7⟩
    · exact right_some ho (by rw [h]; rfl) ⟨hName, ans2 _ _, ans3 _, hL4, ans5 _, ansHold _, ans7 _, k_name, k_2, k_3, k_4, k_5, k_hold, k_7⟩
    · exact right_some ho (by rw [h]; rfl) ⟨ans1 _, ans2 _ _, ans3 _, hL4, ansPeriod _, ans6 _, ans7 _, k_1, k_2, k_3, k_4, k_per, k_6, k_7⟩
    · exact right_some ho (by rw [h]; rfl) ⟨hName, ans2 _ _, ans3 _, hL4, ans5 _, ans6 _, ans7 _, k_name, k_2, k_3, k_4, k_5, k_6, k_7⟩
  · have e : rightO o = false := by
      unfold rightO
      by_cases h1 : 1 ≤ o.kd
      · have : decide (o.kd ≤ 7) = false := decide_eq_false (fun h => hk ⟨h1, h⟩)
        rw [this, Bool.false_and, Bool.and_false]
      · rw [decide_eq_false h1, Bool.false_and]
    rw [e]
    exact right_none ho (shapeF_none hk)
end Go.Proofs.YtlanhclgbkhdlaaGreat

namespace Go.Proofs.YtlanhclgbkhdlaaGreat
open Go.RowKit Go.My Go.Maps
set_option linter.unusedSimpArgs false
set_option linter.unusedVariables false

/-- a book -/
structure Bk where
  S : List Ac
  H : List Hd
  cl : Int
def bk0 : Bk := ⟨[], [], 0⟩
def errR (e : Int) : Rp := ⟨e, 0, 0, 0⟩
/-- what is told of an account, where e was done -/
def aboutR (S : List Ac) (nm : List UInt8) (e : Int) : Rp := if e = 0 then ⟨(if (getA S nm).isSome then 0 else 6), (getV S nm).hv, (getV S nm).st, 0⟩ else errR e
def numO (o : Od) : Int := wrap64 (1000 * o.cl + o.sq)
def numR (r : Rp) (n : Int) : Rp := if r.err = 0 then { r with num := n } else r
/-- what an order that may be does -/
def effR (b : Bk) (o : Od) : Rp :=
  if o.kd = 1 then aboutR (openS b.S o.an o.sum) o.an (openE b.S o.an o.sum)
  else if o.kd = 2 then (if o.per ≤ b.cl then errR 10 else errR (checkE b.S o.legs))
  else if o.kd = 3 then numR (aboutR (putSS b.S b.H (numO o) o.an o.sum) o.an (putE b.S b.H (numO o) o.an o.sum)) (numO o)
  else if o.kd = 4 then (if o.per ≤ b.cl then errR 10 else aboutR (takeSS b.S b.H o.acct o.hold o.peer o.sum) o.an (takeE b.S b.H o.acct o.hold o.peer o.sum))
  else if o.kd = 5 then aboutR (freeSS b.S b.H o.an o.hold) o.an (freeE b.S b.H o.an o.hold)
  else if o.kd = 6 then (if o.per ≤ b.cl then errR 10 else ⟨0, 0, 0, o.per⟩)
  else aboutR b.S o.an 0
def effB (b : Bk) (o : Od) : Bk :=
  if o.kd = 1 then ⟨openS b.S o.an o.sum, b.H, b.cl⟩
  else if o.kd = 2 then (if o.per ≤ b.cl then b else ⟨makeS b.S o.legs, b.H, b.cl⟩)
  else if o.kd = 3 then ⟨putSS b.S b.H (numO o) o.an o.sum, putHH b.S b.H (numO o) o.an o.sum, b.cl⟩
  else if o.kd = 4 then (if o.per ≤ b.cl then b else ⟨takeSS b.S b.H o.acct o.hold o.peer o.sum, takeHH b.S b.H o.acct o.hold o.peer o.sum, b.cl⟩)
  else if o.kd = 5 then ⟨freeSS b.S b.H o.an o.hold, freeHH b.S b.H o.an o.hold, b.cl⟩
  else if o.kd = 6 then (if o.per ≤ b.cl then b else ⟨b.S, b.H, o.per⟩)
  else b
def doR (b : Bk) (o : Od) : Rp := if rightO o = true then effR b o else errR 1
def doB (b : Bk) (o : Od) : Bk := if rightO o = true then effB b o else b
/-- orders, one behind the other -/
def foldB : Bk → List Od → Bk
  | b, [] => b
  | b, o :: r => foldB (doB b o) r
def foldR : Bk → List Od → List Rp
  | _, [] => []
  | b, o :: r => doR b o :: foldR (doB b o) r
theorem foldB_append (b : Bk) (l m : List Od) : foldB b (l ++ m) = foldB (foldB b l) m := by
  induction l generalizing b with
  | nil => rfl
  | cons o r ih => exact ih _
theorem foldR_append (b : Bk) (l m : List Od) : foldR b (l ++ m) = foldR b l ++ foldR (foldB b l) m := by
  induction l generalizing b with
  | nil => rfl
  | cons o r ih =>
    show doR b o :: foldR (doB b o) (r ++ m) = _
    rw [ih]
    rfl
theorem foldR_length (b : Bk) (l : List Od) : (foldR b l).length = l.length := by
  induction l generalizing b with
  | nil => rfl
  | cons o r ih => show (foldR (doB b o) r).length + 1 = _; rw [ih]; rfl

/-- what holds of a book -/
structure BkI (b : Bk) : Prop where
  st : StB b.S b.H
  cl : 0 ≤ b.cl ∧ b.cl ≤ 1000
theorem bki0 : BkI bk0 := ⟨StB.none, by unfold bk0; exact ⟨Int.le_refl 0, by decide⟩⟩
theorem filter_or (p q : Hd → Bool) : ∀ l : List Hd, (l.filter fun x => p x || q x).length ≤ (l.filter p).length + (l.filter q).length
  | [] => by simp
  | x :: r => by
    have ih := filter_or p q r
    rw [List.filter_cons, List.filter_cons, List.filter_cons]
    cases p x <;> cases q x <;> simp <;> omega
theorem few_all {H : List Hd} (hf : ∀ nm, (ofH H nm).length ≤ 8) : ∀ S : List Ac, (H.filter fun x => S.any fun a => a.name == x.acct).length ≤ 8 * S.length
  | [] => by simp
  | a :: r => by
    have ih := few_all hf r
    have h1 := filter_or (fun x => a.name == x.acct) (fun x => r.any fun a => a.name == x.acct) H
    have h2 := hf a.name
    have h3 : (H.filter fun x => a.name == x.acct) = ofH H a.name := by
      unfold ofH
      apply List.filter_congr
      intro x _
      exact BEq.comm
    rw [h3] at h1
    have h4 : (H.filter fun x => (a :: r).any fun a => a.name == x.acct) = H.filter fun x => (a.name == x.acct) || (r.any fun a => a.name == x.acct) := by simp only [List.any_cons]
    rw [h4, List.length_cons]
    omega
/-- few holds -/
theorem StB.len {S : List Ac} {H : List Hd} (h : StB S H) : H.length ≤ 96 := by
  have h1 := few_all h.few S
  have h2 : (H.filter fun x => S.any fun a => a.name == x.acct) = H := by
    rw [List.filter_eq_self]
    intro x hx
    have h3 := h.kp.own x hx
    cases hg : getA S x.acct with
    | none => rw [hg] at h3; cases h3
    | some a =>
      rw [List.any_eq_true]
      exact ⟨a, (getA_some hg).1, by simpa using (getA_some hg).2⟩
  rw [h2] at h1
  have := h.kp.inv.len
  omega
/-- what an order that may be is like -/
theorem right_kd {o : Od} (h : rightO o = true) : (1 ≤ o.kd ∧ o.kd ≤ 7) ∧ (0 ≤ o.cl ∧ o.cl ≤ 9 ∧ 1 ≤ o.sq ∧ o.sq ≤ 999) ∧ (o.kd = 2 ∨ o.kd = 6 ∨ nameB o.an = true) ∧ (o.kd = 2 ∨ o.kd = 4 ∨ o.kd = 6 → 1 ≤ o.per ∧ o.per ≤ 1000) := by
  unfold rightO idB at h
  simp only [Bool.and_eq_true, decide_eq_true_eq] at h
  obtain ⟨h1, h2, ⟨h3, h4, h5, h6⟩, ha, hp, hs, hl, hper, hh, hn⟩ := h
  refine ⟨⟨h1, h2⟩, ⟨h3, h4, h5, h6⟩, ?_, fun hk => ?_⟩
  · unfold acctB at ha
    split at ha
    · rename_i h; rcases h with h | h
      · exact .inl h
      · exact .inr (.inl h)
    · exact .inr (.inr ha)
  · unfold perB at hper
    rw [if_pos hk] at hper
    simpa using hper
theorem name_len {l : List UInt8} (h : nameB l = true) : l.length ≤ 8 := by
  unfold nameB at h
  simp only [Bool.and_eq_true, decide_eq_true_eq] at h
  exact h.2.2
theorem numO_eq {o : Od} (h : 0 ≤ o.cl ∧ o.cl ≤ 9 ∧ 1 ≤ o.sq ∧ o.sq ≤ 999) : numO o = 1000 * o.cl + o.sq := by
  unfold numO
  rw [IntWalk.wrap64_in _ ⟨by omega, by omega⟩]
theorem do_inv {b : Bk} (h : BkI b) {o : Od} (ho : o.ok) : BkI (doB b o) := by
  unfold doB
  by_cases hr : rightO o = true
  · rw [if_pos hr]
    obtain ⟨hk, hid, hnm, hper⟩ := right_kd hr
    have hsum : In64 o.sum := ho.2.2.2.2.2.1
    unfold effB
    by_cases k1 : o.kd = 1
    · rw [if_pos k1]; exact ⟨h.st.open _ _ hsum, h.cl⟩
    rw [if_neg k1]
    by_cases k2 : o.kd = 2
    · rw [if_pos k2]; split
      · exact h
      · exact ⟨h.st.post _, h.cl⟩
    rw [if_neg k2]
    by_cases k3 : o.kd = 3
    · rw [if_pos k3]
      refine ⟨h.st.put _ _ _ hsum.2 ?_, h.cl⟩
      rcases hnm with h1 | h1 | h1
      · omega
      · omega
      · exact name_len h1
    rw [if_neg k3]
    by_cases k4 : o.kd = 4
    · rw [if_pos k4]; split
      · exact h
      · exact ⟨h.st.take _ _ _ _, h.cl⟩
    rw [if_neg k4]
    by_cases k5 : o.kd = 5
    · rw [if_pos k5]; exact ⟨(h.st.free _ _).1, h.cl⟩
    rw [if_neg k5]
    by_cases k6 : o.kd = 6
    · rw [if_pos k6]; split
      · exact h
      · have := hper (.inr (.inr k6))
        exact ⟨h.st, by simp only; omega⟩
    rw [if_neg k6]
    exact h
  · rw [if_neg hr]; exact h
theorem fold_inv {b : Bk} (h : BkI b) : ∀ l : List Od, (∀ o ∈ l, o.ok) → BkI (foldB b l)
  | [], _ => h
  | o :: r, hl => fold_inv (do_inv h (hl o List.mem_cons_self)) r fun x hx => hl x (List.mem_cons_of_mem _ hx)
end Go.Proofs.YtlanhclgbkhdlaaGreat

namespace Go.Proofs.YtlanhclgbkhdlaaGreat
open Go.RowKit Go.My Go.Maps
set_option linter.unusedSimpArgs false
set_option linter.unusedVariables false

/-! ### lists that rise are told by what they hold -/
theorem pw_ext {α : Type} {R : α → α → Prop} (as_ : ∀ a b, R a b → ¬ R b a) : ∀ {l m : List α}, l.Pairwise R → m.Pairwise R → (∀ x, x ∈ l ↔ x ∈ m) → l = m
  | [], [], _, _, _ => rfl
  | [], c :: s, _, _, h => absurd ((h c).2 List.mem_cons_self) List.not_mem_nil
  | a :: r, [], _, _, h => absurd ((h a).1 List.mem_cons_self) List.not_mem_nil
  | a :: r, c :: s, hl, hm, h => by
    rw [List.pairwise_cons] at hl hm
    have e : a = c := by
      rcases List.mem_cons.1 ((h a).1 List.mem_cons_self) with e | h1
      · exact e
      · rcases List.mem_cons.1 ((h c).2 List.mem_cons_self) with e | h2
        · exact e.symm
        · exact absurd (hl.1 c h2) (as_ _ _ (hm.1 a h1))
    subst e
    have irr : ¬ R a a := fun k => as_ _ _ k k
    rw [pw_ext as_ hl.2 hm.2 fun x => ?_]
    constructor
    · intro hx
      rcases List.mem_cons.1 ((h x).1 (List.mem_cons_of_mem _ hx)) with e | h1
      · exact absurd (e ▸ hl.1 x hx) irr
      · exact h1
    · intro hx
      rcases List.mem_cons.1 ((h x).2 (List.mem_cons_of_mem _ hx)) with e | h1
      · exact absurd (e ▸ hm.1 x hx) irr
      · exact h1
theorem str_asymm {x y : List UInt8} (h : bytesBefore x y = true) : ¬ bytesBefore y x = true := fun k => by
  have h1 := before_lt _ _ h
  have h2 := before_lt _ _ k
  exact List.lt_irrefl x (List.lt_trans h1 h2)
theorem riseA_ext {S T : List Ac} (hS : Rise S) (hT : Rise T) (h : ∀ k, getA S k = getA T k) : S = T := by
  refine pw_ext (fun a b k1 k2 => str_asymm k1 k2) hS hT fun x => ?_
  constructor
  · intro hx
    have h1 := getA_mem hS hx
    rw [h] at h1
    exact (getA_some h1).1
  · intro hx
    have h1 := getA_mem hT hx
    rw [← h] at h1
    exact (getA_some h1).1
theorem riseH_ext {G H : List Hd} (hG : RiseH G) (hH : RiseH H) (h : ∀ k, ofH G k = ofH H k) : G = H := by
  refine pw_ext (fun a b k1 k2 => by have := hB_asymm k1; rw [k2] at this; cases this) hG hH fun x => ?_
  have e : ∀ (L : List Hd), x ∈ L ↔ x ∈ ofH L x.acct := fun L => by
    unfold ofH
    rw [List.mem_filter]
    simp
  rw [e G, e H, h]

/-! ### what a deed looks at, and what it changes -/
def AgS (T : List (List UInt8)) (S S' : List Ac) : Prop := ∀ k ∈ T, getA S k = getA S' k
def AgH (T : List (List UInt8)) (H H' : List Hd) : Prop := ∀ k ∈ T, ofH H k = ofH H' k
section
variable {f : Ac → Int} {g : Ac → Ac}
theorem act_loc {S S' : List Ac} {nm : List UInt8} (h : getA S nm = getA S' nm) : actE f S nm = actE f S' nm := by unfold actE; rw [h]
theorem act_far (hg : ∀ a, (g a).name = a.name) (S : List Ac) (nm : List UInt8) {k : List UInt8} (hk : k ≠ nm) : getA (actS f g S nm) k = getA S k := by
  unfold actS
  cases ha : getA S nm with
  | none => rfl
  | some a =>
    simp only
    split
    · exact getA_put_other S _ k (by rw [hg, (getA_some ha).2]; exact hk)
    · rfl
theorem act_at (hg : ∀ a, (g a).name = a.name) {S S' : List Ac} {nm : List UInt8} (h : getA S nm = getA S' nm) : getA (actS f g S nm) nm = getA (actS f g S' nm) nm := by
  unfold actS
  rw [← h]
  cases ha : getA S nm with
  | none => simp only; rw [ha, ← h, ha]
  | some a =>
    have hn : (g a).name = nm := by rw [hg, (getA_some ha).2]
    simp only
    split
    · have h1 := getA_put_same S (g a)
      have h2 := getA_put_same S' (g a)
      rw [hn] at h1 h2
      rw [h1, h2]
    · rw [ha, ← h, ha]
theorem act_cong (hg : ∀ a, (g a).name = a.name) {T : List (List UInt8)} {S S' : List Ac} {nm : List UInt8} (h : AgS T S S') (hm : nm ∈ T) : AgS T (actS f g S nm) (actS f g S' nm) := fun k hk => by
  by_cases e : k = nm
  · rw [e]
    exact act_at hg (h nm hm)
  · rw [act_far hg S nm e, act_far hg S' nm e]
    exact h k hk
theorem act_len (hg : ∀ a, (g a).name = a.name) {S : List Ac} (hr : Rise S) (nm : List UInt8) : (actS f g S nm).length = S.length := by
  unfold actS
  cases ha : getA S nm with
  | none => rfl
  | some a =>
    simp only
    split
    · rw [length_put _ _ hr, hg, (getA_some ha).2, ha]
      rfl
    · rfl
end
theorem giveN (x : Int) (a : Ac) : (giveA a x).name = a.name := by unfold giveA; split <;> rfl
theorem asdN (x : Int) (a : Ac) : (asideA a x).name = a.name := by unfold asideA; split <;> rfl
theorem asd_loc {S S' : List Ac} {nm : List UInt8} {x : Int} (h : getA S nm = getA S' nm) : asdE S nm x = asdE S' nm x := act_loc h
theorem asd_cong {T : List (List UInt8)} {S S' : List Ac} {nm : List UInt8} {x : Int} (h : AgS T S S') (hm : nm ∈ T) : AgS T (asdS S nm x) (asdS S' nm x) := act_cong (asdN x) h hm
theorem asd_far (S : List Ac) (nm : List UInt8) (x : Int) {k : List UInt8} (hk : k ≠ nm) : getA (asdS S nm x) k = getA S k := act_far (asdN x) S nm hk
theorem asd_len {S : List Ac} (hr : Rise S) (nm : List UInt8) (x : Int) : (asdS S nm x).length = S.length := act_len (asdN x) hr nm
theorem leg_cong {T : List (List UInt8)} {S S' : List Ac} {g : Lg} (h : AgS T S S') (hm : g.nm ∈ T) : AgS T (legS S g) (legS S' g) := by
  unfold legS
  rw [leg_same g (h _ hm)]
  split
  · exact act_cong (giveN _) h hm
  · exact h
theorem legs_cong {T : List (List UInt8)} : ∀ (L : List Lg) {S S' : List Ac}, AgS T S S' → (∀ g ∈ L, g.nm ∈ T) → legsE S L = legsE S' L ∧ AgS T (legsS S L) (legsS S' L)
  | [], S, S', h, _ => ⟨rfl, h⟩
  | g :: r, S, S', h, hm => by
    unfold legsE legsS
    rw [leg_same g (h _ (hm g List.mem_cons_self))]
    split
    · exact legs_cong r (leg_cong h (hm g List.mem_cons_self)) fun x hx => hm x (List.mem_cons_of_mem _ hx)
    · exact ⟨rfl, h⟩
theorem legs_far : ∀ (L : List Lg) (S : List Ac) {k : List UInt8}, (∀ g ∈ L, g.nm ≠ k) → getA (legsS S L) k = getA S k
  | [], S, k, _ => rfl
  | g :: r, S, k, h => by
    unfold legsS
    split
    · rw [legs_far r _ fun x hx => h x (List.mem_cons_of_mem _ hx), leg_other S g k (fun e => h g List.mem_cons_self e.symm)]
    · rfl
theorem legs_len : ∀ (L : List Lg) {S : List Ac}, Inv S → (legsS S L).length = S.length
  | [], S, _ => rfl
  | g :: r, S, h => by
    unfold legsS
    split
    · rw [legs_len r (inv_leg h g)]
      unfold legS
      split
      all_goals first | exact act_len (giveN _) h.rise _ | rfl
    · rfl
theorem make_cong {T : List (List UInt8)} {L : List Lg} {S S' : List Ac} (h : AgS T S S') (hm : ∀ g ∈ L, g.nm ∈ T) : checkE S L = checkE S' L ∧ AgS T (makeS S L) (makeS S' L) := by
  obtain ⟨h1, h2⟩ := legs_cong L h hm
  have hc : checkE S L = checkE S' L := by unfold checkE; rw [h1]
  refine ⟨hc, ?_⟩
  unfold makeS
  rw [hc]
  split
  · exact h2
  · exact h
theorem make_far {L : List Lg} {S : List Ac} {k : List UInt8} (h : ∀ g ∈ L, g.nm ≠ k) : getA (makeS S L) k = getA S k := by
  unfold makeS
  split
  · exact legs_far L S h
  · rfl
theorem make_len {L : List Lg} {S : List Ac} (h : Inv S) : (makeS S L).length = S.length := by
  unfold makeS
  split
  · exact legs_len L h
  · rfl
theorem open_cong {T : List (List UInt8)} {S S' : List Ac} {nm : List UInt8} {lim : Int} (h : AgS T S S') (hm : nm ∈ T) (hl : S.length = S'.length) : openE S nm lim = openE S' nm lim ∧ AgS T (openS S nm lim) (openS S' nm lim) := by
  have he : openE S nm lim = openE S' nm lim := by unfold openE; rw [h nm hm, hl]
  refine ⟨he, ?_⟩
  unfold openS
  rw [he]
  split
  · intro k hk
    by_cases e : k = nm
    · have h1 := getA_put_same S ⟨nm, 0, 0, lim⟩
      have h2 := getA_put_same S' ⟨nm, 0, 0, lim⟩
      simp only at h1 h2
      rw [e, h1, h2]
    · rw [getA_put_other S _ k e, getA_put_other S' _ k e]
      exact h k hk
  · exact h
theorem open_far (S : List Ac) (nm : List UInt8) (lim : Int) {k : List UInt8} (hk : k ≠ nm) : getA (openS S nm lim) k = getA S k := by
  unfold openS
  split
  · exact getA_put_other S _ k hk
  · rfl

/-! ### holds -/
theorem getH_of (H : List Hd) (a : List UInt8) (n : Int) : getH H a n = getH (ofH H a) a n := by
  unfold getH ofH
  rw [List.find?_filter]
  congr 1
  funext h
  unfold Hd.at
  cases h.acct == a <;> cases h.num == n <;> rfl
theorem getH_loc {H H' : List Hd} {a : List UInt8} (h : ofH H a = ofH H' a) (n : Int) : getH H a n = getH H' a n := by rw [getH_of H, getH_of H', h]
theorem ofH_ins_far (x : Hd) (H : List Hd) {k : List UInt8} (hk : k ≠ x.acct) : ofH (insH x H) k = ofH H k := by
  unfold ofH
  have hx : (x.acct == k) = false := beq_eq_false_iff_ne.2 fun e => hk e.symm
  induction H with
  | nil => simp [insH, hx]
  | cons b r ih =>
    unfold insH
    split
    · rw [List.filter_cons, hx]; rfl
    · rw [List.filter_cons, List.filter_cons, ih]
theorem ofH_ins_at (x : Hd) {H H' : List Hd} (hr : RiseH H) (hr' : RiseH H') (hn : getH H x.acct x.num = none) (h : ofH H x.acct = ofH H' x.acct) : ofH (insH x H) x.acct = ofH (insH x H') x.acct := by
  have hn' : getH H' x.acct x.num = none := by rw [← getH_loc h]; exact hn
  refine rise_perm_eq ?_ (rise_filter (rise_insH x H hr hn) _) (rise_filter (rise_insH x H' hr' hn') _)
  have p1 : (ofH (insH x H) x.acct).Perm (ofH (x :: H) x.acct) := (perm_insH x H).filter _
  have p2 : (ofH (insH x H') x.acct).Perm (ofH (x :: H') x.acct) := (perm_insH x H').filter _
  refine p1.trans (List.Perm.trans ?_ p2.symm)
  have e : ofH (x :: H) x.acct = x :: ofH H x.acct := by unfold ofH; rw [List.filter_cons]; simp
  have e' : ofH (x :: H') x.acct = x :: ofH H' x.acct := by unfold ofH; rw [List.filter_cons]; simp
  rw [e, e', h]
theorem ofH_del (H : List Hd) (a : List UInt8) (n : Int) (k : List UInt8) : ofH (delH H a n) k = (ofH H k).filter fun h => !h.at a n := by
  unfold ofH delH
  rw [List.filter_filter, List.filter_filter]
  congr 1
  funext h
  exact Bool.and_comm _ _
theorem ofH_del_far (H : List Hd) (a : List UInt8) (n : Int) {k : List UInt8} (hk : k ≠ a) : ofH (delH H a n) k = ofH H k := by
  rw [ofH_del, List.filter_eq_self]
  intro h hh
  unfold ofH at hh
  have h1 : h.acct = k := by simpa using (List.mem_filter.1 hh).2
  unfold Hd.at
  have : (h.acct == a) = false := beq_eq_false_iff_ne.2 (by rw [h1]; exact hk)
  rw [this]
  rfl
theorem put_loc {S S' : List Ac} {H H' : List Hd} {n x : Int} {a : List UInt8} (hs : getA S a = getA S' a) (hh : ofH H a = ofH H' a) : putE S H n a x = putE S' H' n a x := by
  unfold putE
  rw [getH_loc hh, hh, asd_loc hs]
theorem put_cong {T : List (List UInt8)} {S S' : List Ac} {H H' : List Hd} {n x : Int} {a : List UInt8} (hs : AgS T S S') (hh : AgH T H H') (hm : a ∈ T) (hr : RiseH H) (hr' : RiseH H') :
    AgS T (putSS S H n a x) (putSS S' H' n a x) ∧ AgH T (putHH S H n a x) (putHH S' H' n a x) := by
  have he : putE S H n a x = putE S' H' n a x := put_loc (hs a hm) (hh a hm)
  unfold putSS putHH
  by_cases h0 : putE S H n a x = 0
  · rw [if_pos h0, if_pos h0, ← he, if_pos h0, if_pos h0]
    refine ⟨asd_cong hs hm, fun k hk => ?_⟩
    by_cases e : k = a
    · subst e
      exact ofH_ins_at ⟨n, k, x⟩ hr hr' (put_zero h0).2.2.2.1 (hh k hk)
    · rw [ofH_ins_far _ _ e, ofH_ins_far _ _ e]
      exact hh k hk
  · rw [if_neg h0, if_neg h0, ← he, if_neg h0, if_neg h0]
    exact ⟨hs, hh⟩
theorem free_cong {T : List (List UInt8)} {S S' : List Ac} {H H' : List Hd} {n : Int} {a : List UInt8} (hs : AgS T S S') (hh : AgH T H H') (hm : a ∈ T) :
    freeE S H a n = freeE S' H' a n ∧ AgS T (freeSS S H a n) (freeSS S' H' a n) ∧ AgH T (freeHH S H a n) (freeHH S' H' a n) := by
  have hg := getH_loc (hh a hm) n
  have he : freeE S H a n = freeE S' H' a n := by
    unfold freeE
    rw [hg]
    cases getH H' a n with
    | none => rfl
    | some h => exact asd_loc (hs a hm)
  refine ⟨he, ?_, ?_⟩
  · unfold freeSS
    rw [hg]
    cases getH H' a n with
    | none => exact hs
    | some h => exact asd_cong hs hm
  · unfold freeHH
    rw [he]
    split
    · intro k hk
      rw [ofH_del, ofH_del, hh k hk]
    · exact hh
theorem take_cong {T : List (List UInt8)} {S S' : List Ac} {H H' : List Hd} {n x : Int} {a b : ByteArray} (hs : AgS T S S') (hh : AgH T H H') (hm : a.data.toList ∈ T) (hb : b.data.toList ∈ T) :
    takeE S H a n b x = takeE S' H' a n b x ∧ AgS T (takeSS S H a n b x) (takeSS S' H' a n b x) ∧ AgH T (takeHH S H a n b x) (takeHH S' H' a n b x) := by
  have hg := getH_loc (hh _ hm) n
  have hleg : ∀ g ∈ legsT a b x, g.nm ∈ T := fun g hg => by
    unfold legsT at hg
    simp only [List.mem_cons, List.not_mem_nil, or_false] at hg
    rcases hg with rfl | rfl
    · exact hm
    · exact hb
  have he : takeE S H a n b x = takeE S' H' a n b x := by
    unfold takeE
    rw [hg]
    cases getH H' a.data.toList n with
    | none => rfl
    | some h =>
      simp only
      rw [asd_loc (hs _ hm), (make_cong (asd_cong (x := -h.sum) hs hm) hleg).1]
  refine ⟨he, ?_, ?_⟩
  · unfold takeSS
    rw [he, hg]
    split
    · exact (make_cong (asd_cong hs hm) hleg).2
    · exact hs
  · unfold takeHH
    rw [he]
    split
    · intro k hk
      rw [ofH_del, ofH_del, hh k hk]
    · exact hh
end Go.Proofs.YtlanhclgbkhdlaaGreat

set_option linter.unusedSimpArgs false
set_option linter.unusedVariables false
namespace Go.My
open Go Go.RowKit Go.Sort Go.Lib Go.Proofs

/-- in order, each once -/
def Up (l : List (List UInt8)) : Prop := l.Pairwise (· < ·)
theorem str_irrefl (a : List UInt8) : ¬ a < a := List.lt_irrefl a
theorem str_trans {a b c : List UInt8} (h : a < b) (k : b < c) : a < c := List.lt_trans h k
theorem str_le_ne {a b : List UInt8} (h : a ≤ b) (hn : a ≠ b) : a < b := by
  rcases Decidable.em (a < b) with h1 | h1
  · exact h1
  · exact absurd (List.le_antisymm h (List.not_lt.1 h1)) hn
theorem str_le_lt {a b c : List UInt8} (h : a ≤ b) (k : b < c) : a < c := by
  by_cases e : a = b
  · subst e; exact k
  · exact str_trans (str_le_ne h e) k
theorem up_ext : ∀ {a b : List (List UInt8)}, Up a → Up b → (∀ s, s ∈ a ↔ s ∈ b) → a = b
  | [], [], _, _, _ => rfl
  | [], y :: b, _, _, h => by have := (h y).2 List.mem_cons_self; cases this
  | x :: a, [], _, _, h => by have := (h x).1 List.mem_cons_self; cases this
  | x :: a, y :: b, ha, hb, h => by
    obtain ⟨h1, h2⟩ := List.pairwise_cons.1 ha
    obtain ⟨k1, k2⟩ := List.pairwise_cons.1 hb
    have e : x = y := by
      rcases List.mem_cons.1 ((h x).1 List.mem_cons_self) with e | hx
      · exact e
      · rcases List.mem_cons.1 ((h y).2 List.mem_cons_self) with e | hy
        · exact e.symm
        · exact absurd (str_trans (h1 y hy) (k1 x hx)) (str_irrefl x)
    subst e
    congr 1
    refine up_ext h2 k2 fun s => ⟨fun hs => ?_, fun hs => ?_⟩
    · rcases List.mem_cons.1 ((h s).1 (List.mem_cons_of_mem _ hs)) with e | hx
      · subst e; exact absurd (h1 s hs) (str_irrefl s)
      · exact hx
    · rcases List.mem_cons.1 ((h s).2 (List.mem_cons_of_mem _ hs)) with e | hx
      · subst e; exact absurd (k1 s hs) (str_irrefl s)
      · exact hx
theorem compact_up (d : Array (List UInt8)) (hd : ∀ i j, i < j → j < d.size → d[i]! ≤ d[j]!) : ∀ m, m ≤ d.size → Up (compactUpTo d m) ∧ ∀ s, s ∈ compactUpTo d m ↔ ∃ j, j < m ∧ d[j]! = s
  | 0, _ => by
    refine ⟨List.Pairwise.nil, fun s => ?_⟩
    simp [compactUpTo]
  | m + 1, hm => by
    obtain ⟨h1, h2⟩ := compact_up d hd m (by omega)
    rw [compactUpTo_succ]
    cases hk : keeps d m with
    | false =>
      simp only [Bool.false_eq_true, if_false, List.append_nil]
      refine ⟨h1, fun s => ?_⟩
      rw [h2 s]
      unfold keeps at hk
      rw [decide_eq_false_iff_not] at hk
      have hm0 : m ≠ 0 := fun e => hk (.inl e)
      have he : d[m]! = d[m - 1]! := Decidable.byContradiction fun e => hk (.inr e)
      constructor
      · rintro ⟨j, hj, e⟩
        exact ⟨j, by omega, e⟩
      · rintro ⟨j, hj, e⟩
        by_cases hjm : j = m
        · subst hjm
          exact ⟨j - 1, by omega, by rw [← he]; exact e⟩
        · exact ⟨j, by omega, e⟩
    | true =>
      simp only [if_true]
      unfold keeps at hk
      rw [decide_eq_true_eq] at hk
      constructor
      · unfold Up
        rw [List.pairwise_append]
        refine ⟨h1, by simp, fun a ha b hb => ?_⟩
        rw [List.mem_singleton] at hb
        subst hb
        obtain ⟨j, hj, rfl⟩ := (h2 a).1 ha
        rcases hk with h0 | hne
        · omega
        · have hlt := str_le_ne (hd (m - 1) m (by omega) (by omega)) (fun e => hne e.symm)
          by_cases e : j = m - 1
          · subst e; exact hlt
          · exact str_le_lt (hd j (m - 1) (by omega) (by omega)) hlt
      · intro s
        rw [List.mem_append, List.mem_singleton, h2 s]
        constructor
        · rintro (⟨j, hj, e⟩ | e)
          · exact ⟨j, by omega, e⟩
          · exact ⟨m, by omega, e.symm⟩
        · rintro ⟨j, hj, e⟩
          by_cases hjm : j = m
          · subst hjm; exact .inr e.symm
          · exact .inl ⟨j, by omega, e⟩
/-- sorted, and each once -/
def upOf (l : List (List UInt8)) : List (List UInt8) := compact (l.mergeSort fun x y => decide (x ≤ y))
theorem upOf_spec (l : List (List UInt8)) : Up (upOf l) ∧ ∀ s, s ∈ upOf l ↔ s ∈ l := by
  have hp := List.pairwise_mergeSort (le := fun x y : List UInt8 => decide (x ≤ y)) (fun a b c h k => by
    simp only [decide_eq_true_eq] at h k ⊢
    exact List.le_trans h k) (fun a b => by
    rcases List.le_total a b with h | h
    · simp [h]
    · simp [h]) l
  have hm : ∀ s, s ∈ l.mergeSort (fun x y => decide (x ≤ y)) ↔ s ∈ l := fun s => List.mem_mergeSort
  unfold upOf
  generalize l.mergeSort (fun x y => decide (x ≤ y)) = t at hp hm ⊢
  have h := compact_up t.toArray (fun i j hij hj => by
    have hj' : j < t.length := by simpa using hj
    have h1 := List.pairwise_iff_getElem.1 hp i j (by omega) hj' hij
    rw [getElem!_pos t.toArray i (by simp; omega), getElem!_pos t.toArray j (by simpa using hj')]
    simpa using h1) t.length (by simp)
  unfold compact
  refine ⟨h.1, fun s => ?_⟩
  rw [h.2 s, ← hm s, List.mem_iff_getElem]
  constructor
  · rintro ⟨j, hj, e⟩
    refine ⟨j, hj, ?_⟩
    rw [getElem!_pos t.toArray j (by simpa using hj)] at e
    simpa using e
  · rintro ⟨j, hj, e⟩
    refine ⟨j, hj, ?_⟩
    rw [getElem!_pos t.toArray j (by simpa using hj)]
    simpa using e
/-- sorted, each once, and the same texts: one -/
theorem upOf_eq {l t : List (List UInt8)} (h : Up t) (hm : ∀ s, s ∈ t ↔ s ∈ l) : t = upOf l :=
  up_ext h (upOf_spec l).1 fun s => (hm s).trans ((upOf_spec l).2 s).symm
theorem upOf_length (l : List (List UInt8)) : (upOf l).length ≤ l.length := by
  have := compact_length_le (l.mergeSort fun x y => decide (x ≤ y))
  rw [List.length_mergeSort] at this
  exact this

/-! ### rows of texts -/
def ts (l : List (List UInt8)) : List Value := l.map encStr
theorem ts_length (l : List (List UInt8)) : (ts l).length = l.length := by simp [ts]
theorem ts_append (l r : List (List UInt8)) : ts (l ++ r) = ts l ++ ts r := by simp [ts]
theorem ts_one (l : List (List UInt8)) : ∀ u ∈ ts l, u.oneCell' = true := by
  intro u hu
  simp only [ts, List.mem_map] at hu
  obtain ⟨b, _, rfl⟩ := hu
  rfl
theorem ts_get (l : List (List UInt8)) (k : Nat) (h : k < l.length) : (ts l)[k]? = some (encStr l[k]) := by simp [ts, h]
/-- the cells of a block where a row has been laid at its head -/
theorem take_putS (F : Array (List UInt8)) (cur : Array Value) (k : Nat) (hk : k ≤ F.size) (hl : F.size ≤ cur.size) : (putCells encStr 0 F cur).toList.take k = ts (F.toList.take k) := by
  apply List.ext_getElem?
  intro t
  rw [List.getElem?_take]
  unfold ts
  rw [List.getElem?_map, List.getElem?_take]
  by_cases h : t < k
  · rw [if_pos h, if_pos h]
    unfold putCells
    simp only [Array.getElem?_toList, Array.getElem?_mapIdx]
    rw [Array.getElem?_eq_getElem (by omega), Array.getElem?_eq_getElem (by omega)]
    simp only [Option.map_some]
    rw [if_pos ⟨by omega, by omega⟩, getElem!_pos F (t - 0) (by omega)]
    simp
  · rw [if_neg h, if_neg h]
    rfl
theorem own_holds {w : World} {t : TypeId} {g n cap : Nat} {L : List (List UInt8)} (h : Own w t 1 (.slice (some ⟨g, 0, none⟩) n cap) n (ts L)) : Holds encStr w g 0 L.toArray ∧ g < w.heap.size ∧ L.length = n ∧ n ≤ cap := by
  have hlen : L.length = n := by have := h.1; rw [ts_length] at this; omega
  rcases h.2 with ⟨h0, _⟩ | ⟨g', cap', cur, hv, hg, hle, hm, hs, ht⟩
  · cases h0
  · injection hv with hA hn hc
    injection hA with hA
    injection hA with hA
    subst hA hc
    refine ⟨fun j hj => ?_, (Array.getElem?_eq_some_iff.1 hg).1, hlen, hle⟩
    have hj' : j < L.length := by simpa using hj
    rw [Nat.zero_add, cell_of_row w g j cur _ _ hg, getElem!_pos L.toArray j hj]
    constructor
    · have : (cur.toList.take (n * 1))[j]? = (ts L)[j]? := by rw [ht]
      rw [List.getElem?_take, if_pos (by omega), Array.getElem?_toList, ts_get L j hj'] at this
      simpa using this
    · exact Blk.frozen (t := t) (cs := cur) hg j
theorem own_put {w : World} {t : TypeId} {g n cap : Nat} {L : List (List UInt8)} (h : Own w t 1 (.slice (some ⟨g, 0, none⟩) n cap) n (ts L)) (q : Nat) (os : Array Obj) (F : Array (List UInt8)) (hF : F.size = n) (k : Nat) (hk : k ≤ n) :
    Own (grow (putRow encStr (Sort.ahead w q) g 0 F) os) t 1 (.slice (some ⟨g, 0, none⟩) k cap) k (ts (F.toList.take k)) ∧ Fr (At1 g) w (grow (putRow encStr (Sort.ahead w q) g 0 F) os) := by
  rcases h.2 with ⟨h0, _⟩ | ⟨g', cap', cur, hv, hg, hle, hm, hs, ht⟩
  · cases h0
  · injection hv with hA hn hc
    injection hA with hA
    injection hA with hA
    subst hA hc
    have hlt := (Array.getElem?_eq_some_iff.1 hg).1
    have hheap : (grow (putRow encStr (Sort.ahead w q) g 0 F) os).heap[g]? = some (.cells (putCells encStr 0 F cur) t (0, 0)) := by
      unfold putRow
      rw [heap_grow_old _ _ (by show g < (w.heap.modify g _).size; simpa using hlt)]
      show (w.heap.modify g _)[g]? = _
      rw [Array.getElem?_modify, if_pos rfl, hg]
      rfl
    constructor
    · refine ⟨by rw [ts_length, List.length_take, Array.length_toList]; omega, .inr ⟨g, cap, _, rfl, hheap, by omega, hm, ?_, ?_⟩⟩
      · unfold putCells
        simpa using hs
      · rw [Nat.mul_one]
        exact take_putS F cur k (by omega) (by omega)
    · refine ⟨rfl, rfl, rfl, ?_, fun i hi hn => ?_⟩
      · show w.heap.size ≤ ((w.heap.modify g _) ++ os).size
        simp
      · unfold putRow
        rw [heap_grow_old _ _ (by show i < (w.heap.modify g _).size; simpa using hi)]
        show (w.heap.modify g _)[i]? = _
        rw [Array.getElem?_modify, if_neg (fun e : g = i => hn e.symm)]
end Go.My
namespace Go.Proofs.YtlanhclgbkhdlaaGreat
open Go.RowKit Go.My Go.Maps Go.Sort Go.Lib
set_option linter.unusedSimpArgs false
set_option linter.unusedVariables false

theorem oneS : OneCell encStr := fun _ => rfl
theorem eqS (T : TypeId) : EqlAt Tryz.prog T encStr (fun x y => decide (x = y)) := by
  have h := EqlAt.string Tryz.prog T
  refine ⟨fun x y w => ?_, fun op a b x y w => h.2 op a b ⟨x.toArray⟩ ⟨y.toArray⟩ w⟩
  have e := h.1 ⟨x.toArray⟩ ⟨y.toArray⟩ w
  have e1 : ((⟨x.toArray⟩ : ByteArray).toList == (⟨y.toArray⟩ : ByteArray).toList) = decide (x = y) := by
    rw [ByteArray.toList_eq, ByteArray.toList_eq]
    show (x == y) = _
    by_cases hxy : x = y
    · subst hxy; simp
    · rw [decide_eq_false hxy]; exact beq_eq_false_iff_ne.2 hxy
  simp only [e1] at e
  exact e
theorem neS (T : TypeId) : NeqAt Tryz.prog T encStr (fun x y => decide (x = y)) := by
  have h := NeqAt.string Tryz.prog T
  refine ⟨fun x y w => ?_, fun op a b x y w => h.2 op a b ⟨x.toArray⟩ ⟨y.toArray⟩ w⟩
  have e := h.1 ⟨x.toArray⟩ ⟨y.toArray⟩ w
  have e1 : ((⟨x.toArray⟩ : ByteArray).toList == (⟨y.toArray⟩ : ByteArray).toList) = decide (x = y) := by
    rw [ByteArray.toList_eq, ByteArray.toList_eq]
    show (x == y) = _
    by_cases hxy : x = y
    · subst hxy; simp
    · rw [decide_eq_false hxy]; exact beq_eq_false_iff_ne.2 hxy
  simp only [e1] at e
  exact e
/-- handed back: the row at g, of k texts -/
def RetS (w : World) (g cap : Nat) (e : Ending) (L : List (List UInt8)) (w' : World) : Prop :=
  e = .returned (.slice (some ⟨g, 0, none⟩) L.length cap) ∧ Own w' 9 1 (.slice (some ⟨g, 0, none⟩) L.length cap) L.length (ts L) ∧ Fr (At1 g) w w'

theorem delS_any (f : FuncId) (p : List UInt8 → Bool) (L : List (List UInt8)) (g cap : Nat) (w : World) (h : Own w 9 1 (.slice (some ⟨g, 0, none⟩) L.length cap) L.length (ts L)) (hl : L.length ≤ 1000000)
    (eg : ∀ args w, (callFunc f args).run Tryz.prog w = .ok (.enter f args) w) (hf : ∀ (W : World) (x : List UInt8), FnGives Tryz.prog f #[] #[encStr x] (.bool (p x)) W) :
    Calls Tryz.prog 38 #[.slice (some ⟨g, 0, none⟩) L.length cap, .func (.func f) #[] #[]] w fun e w' => RetS w g cap e (L.filter fun x => !p x) w' := by
  obtain ⟨hH, hlt, hlen, hcap⟩ := own_holds h
  have hcon := AnyE.slices_DeleteFunc Tryz.delS encStr oneS p f #[] eg [] Tryz.zeroValue9 g 0 cap L.toArray w (fun W x _ => hf W x) (fun n os dk x _ => hf _ x) hH (by simp; omega) (by simpa using hcap)
  have e0 : L.toArray.size = L.length := by simp
  rw [e0] at hcon
  refine Calls.mono hcon ?_
  rintro e w' ⟨rfl, q, rfl⟩
  have hle : (L.filter fun x => !p x).length ≤ L.length := List.length_filter_le _ _
  have h1 := own_put h q #[] ((L.filter fun x => !p x) ++ List.replicate (L.length - (L.filter fun x => !p x).length) []).toArray (by simp; omega) (L.filter fun x => !p x).length hle
  rw [grow_empty] at h1
  have e1 : (((L.filter fun x => !p x) ++ List.replicate (L.length - (L.filter fun x => !p x).length) []).toArray.toList.take (L.filter fun x => !p x).length) = L.filter fun x => !p x := by simp
  rw [e1] at h1
  exact ⟨rfl, h1⟩
theorem sortS_any (L : List (List UInt8)) (g cap : Nat) (w : World) (h : Own w 9 1 (.slice (some ⟨g, 0, none⟩) L.length cap) L.length (ts L)) (hl : L.length ≤ 1000000) :
    Calls Tryz.prog 40 #[.slice (some ⟨g, 0, none⟩) L.length cap] w fun e w' => e = .returned (.tuple #[]) ∧ Own w' 9 1 (.slice (some ⟨g, 0, none⟩) L.length cap) L.length (ts (L.mergeSort fun x y => decide (x ≤ y))) ∧ Fr (At1 g) w w' := by
  obtain ⟨hH, hlt, hlen, hcap⟩ := own_holds h
  refine Calls.mono (AnyM.slices_Sort_string Tryz.sortS g 0 cap L w hH hlt (by omega)) ?_
  rintro e w' ⟨rfl, n, os, rfl⟩
  have h1 := own_put h n os (L.mergeSort fun x y => decide (x ≤ y)).toArray (by simp) L.length (Nat.le_refl _)
  have e1 : ((L.mergeSort fun x y => decide (x ≤ y)).toArray.toList.take L.length) = L.mergeSort fun x y => decide (x ≤ y) := by
    rw [List.take_of_length_le (by simp)]
  rw [e1] at h1
  exact ⟨rfl, h1⟩
theorem compS_any (L : List (List UInt8)) (g cap : Nat) (w : World) (h : Own w 9 1 (.slice (some ⟨g, 0, none⟩) L.length cap) L.length (ts L)) (hl : L.length ≤ 1000000) :
    Calls Tryz.prog 41 #[.slice (some ⟨g, 0, none⟩) L.length cap] w fun e w' => RetS w g cap e (compact L) w' := by
  obtain ⟨hH, hlt, hlen, hcap⟩ := own_holds h
  have hcon := AnyE.slices_Compact Tryz.compS encStr oneS (eqS _) (neS _) [] Tryz.zeroValue9 g 0 cap L.toArray w hH (by simp; omega) (by simpa using hcap)
  have e0 : L.toArray.size = L.length := by simp
  rw [e0] at hcon
  have hce : compactUpTo L.toArray L.length = compact L := rfl
  rw [hce] at hcon
  refine Calls.mono hcon ?_
  rintro e w' ⟨rfl, q, rfl⟩
  have hle : (compact L).length ≤ L.length := compact_length_le L
  have h1 := own_put h q #[] (compact L ++ List.replicate (L.length - (compact L).length) []).toArray (by simp; omega) (compact L).length hle
  rw [grow_empty] at h1
  have e1 : ((compact L ++ List.replicate (L.length - (compact L).length) []).toArray.toList.take (compact L).length) = compact L := by simp
  rw [e1] at h1
  exact ⟨rfl, h1⟩
end Go.Proofs.YtlanhclgbkhdlaaGreat

namespace Go.My
open Go.RowKit
set_option linter.unusedSimpArgs false
set_option linter.unusedVariables false
/-- 'append(nil, make([]T, m)...)' -/
theorem run_app_make {P : Program} (w : World) (t u ty e : TypeId) (size bytes : Nat) (he : El P t e size bytes) (hu : P.underlying u = some (.int .i64)) (m : Nat) (hm : 0 < m) (h63 : m ≤ maxLen) (hbytes : m * bytes ≤ 140737488355328) :
    ∃ cap w' xs, (Builtin.append_ #[t, u] ty #[.slice none 0 0, .int .i64 (m : Int)]).run P w = .ok (.slice (some ⟨w.heap.size, 0, none⟩) m cap) w' ∧ Own w' e size (.slice (some ⟨w.heap.size, 0, none⟩) m cap) m xs ∧ Fr No w w' ∧ m ≤ cap ∧ cap ≤ maxLen := by
  obtain ⟨ht, ⟨i, z, hi, hz, hsize, hby, hzs⟩, hpos⟩ := he
  subst hsize
  subst hby
  have h63' : ¬ (9223372036854775807 < (m : Int)) := by simp only [maxLen] at h63; omega
  have hwr : IntKind.i64.wrap (m : Int) = (m : Int) := IntWalk.i64_in _ (by simp only [maxLen] at h63; omega)
  have hneg : ¬ ((m : Int) < 0) := by omega
  have hbi : ¬ (281474976710656 < (m : Int) * (i.bytes : Int)) := by
    have h : ((m * i.bytes : Nat) : Int) ≤ 140737488355328 := by omega
    rw [Int.natCast_mul] at h
    omega
  have h48' : ¬ (281474976710656 < Builtin.nextslicecap m 0 * i.bytes) := by rw [nextslicecap_zero (by omega)]; omega
  have hms : ¬ (m * i.size = 0) := by
    have := Nat.mul_pos hm hpos
    omega
  have hm0 : ¬ (m = 0) := by omega
  have hi0 : ¬ (i.size = 0) := by omega
  have hge := grownCap_ge w m 0 e
  have hcm : grownCap w m 0 e ≤ maxLen := grownCap_le_maxLen w m 0 e h63
  refine ⟨grownCap w m 0 e, w.drew.alloc (.cells (Builtin.zeroCells z.cells m ++ Builtin.zeroCells z.cells (grownCap w m 0 e - m)) e), (Builtin.zeroCells z.cells m).toList, ?_, ⟨by rw [Array.length_toList, size_zeroCells, hzs], .inr ⟨w.heap.size, _, _, rfl, heap_alloc_new w.drew _, hge, hcm, ?_, ?_⟩⟩, ((Fr.refl No w).drew).alloc _, hge, hcm⟩
  · simp [Builtin.append_, run_underlying ht, run_underlying hu, sizeOf, typeInfo, zeroValue, hi, hz, asInt, asIntOf, hwr, hneg, hbi, hms, hm0, hi0, h63', h48', Question.forced, run_firstCells_none, newRow, grownCap]
  · simp only [Array.size_append, size_zeroCells, hzs, ← Nat.add_mul]
    exact Nat.mul_le_mul_right _ (by omega)
  · simp only [Array.toList_append]
    exact List.take_left' (by rw [Array.length_toList, size_zeroCells, hzs])
theorem wpList_app_make {P : Program} (w : World) {ops : Array Oper} {rest : List Oper} {o : Oper} {a : Act} {Q : Exit → Act → World → Prop} (hgd : o.guard = none) (s x : Operand) (t u : TypeId)
    (ho : o.op = .call { callee := .builtin .append, args := #[s, x], argTypes := #[t, u] })
    {e : TypeId} {size bytes : Nat} (he : El P t e size bytes) (hu : P.underlying u = some (.int .i64)) (m : Nat) (hm : 0 < m) (hs : a.eval s = .slice none 0 0) (hx : a.eval x = .int .i64 (m : Int)) (h63 : m ≤ maxLen) (hbytes : m * bytes ≤ 140737488355328)
    (h : ∀ cap w' xs, Own w' e size (.slice (some ⟨w.heap.size, 0, none⟩) m cap) m xs → Fr No w w' → m ≤ cap → cap ≤ maxLen → wpList P ops Q rest (a.put o.dst (.slice (some ⟨w.heap.size, 0, none⟩) m cap)) w') : wpList P ops Q (o :: rest) a w := by
  refine wpList_plain hgd fun K hK => ?_
  obtain ⟨cap, w', xs, hr, h2, h3, h4, h5⟩ := run_app_make (P := P) w t u o.type e size bytes he hu m hm h63 hbytes
  unfold Oper.wp execOp
  simp only [ho, resolve, invoke, builtin, Sem.run_bind, Sem.run_pure, Result.andThen_ok, List.map_toArray, List.map_cons, List.map_nil, hs, hx, hr]
  exact hK _ _ (h cap w' xs h2 h3 h4 h5)
/-- the first none of a row of the call's own -/
theorem Own.zero {w : World} {e : TypeId} {size n c : Nat} {A : Option Addr} {xs : List Value} (h : Own w e size (.slice A n c) n xs) : Own w e size (.slice A 0 c) 0 [] := by
  refine ⟨by simp, ?_⟩
  rcases h.2 with ⟨h0, h1⟩ | ⟨g, cap, cur, hv, hg, h1, h2, h3, h4⟩
  · injection h0 with h0 _ h2
    subst h0 h2
    exact .inl ⟨rfl, rfl⟩
  · injection hv with hA hn hc
    subst hA hc
    exact .inr ⟨g, c, cur, rfl, hg, Nat.zero_le _, h2, h3, by simp⟩
end Go.My
