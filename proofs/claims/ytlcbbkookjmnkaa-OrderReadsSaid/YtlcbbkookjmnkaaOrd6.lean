/- Contracts of package order: Right. -/
import Derived.Test.YtlcbbkookjmnkaaOrd5
namespace Go.Proofs.Ytlcbbkookjmnkaa
open Go.RowKit Go.My Go.Maps
set_option linter.unusedSimpArgs false
set_option linter.unusedVariables false
attribute [local go_sem ↓] Go.wp_at_zero Go.wp_at_succ

def Od.val (o : Od) (v : Value) : Value := .agg (o.cs v).toArray
/-- the functions of a kind's fields are asked one after another -/
structure Asks (o : Od) (v : Value) (w : World) (c0 c1 c2 c3 c4 c5 c6 : FuncId) (b0 b1 b2 b3 b4 b5 b6 : Bool) : Prop where
  a0 : AnsB c0 #[.string o.acct] b0
  a1 : AnsB c1 #[.string o.peer, .string o.acct] b1
  a2 : AnsB c2 #[.int .i64 o.sum] b2
  a3 : ∀ W, Fr No w W → Calls Try.prog c3 #[v] W fun e w' => e = .returned (.bool b3) ∧ Fr No W w'
  a4 : AnsB c4 #[.int .i64 o.per] b4
  a5 : AnsB c5 #[.int .i64 o.hold] b5
  a6 : AnsB c6 #[.string o.note] b6
  e0 : ∀ args W, (callFunc c0 args).run Try.prog W = .ok (.enter c0 args) W
  e1 : ∀ args W, (callFunc c1 args).run Try.prog W = .ok (.enter c1 args) W
  e2 : ∀ args W, (callFunc c2 args).run Try.prog W = .ok (.enter c2 args) W
  e3 : ∀ args W, (callFunc c3 args).run Try.prog W = .ok (.enter c3 args) W
  e4 : ∀ args W, (callFunc c4 args).run Try.prog W = .ok (.enter c4 args) W
  e5 : ∀ args W, (callFunc c5 args).run Try.prog W = .ok (.enter c5 args) W
  e6 : ∀ args W, (callFunc c6 args).run Try.prog W = .ok (.enter c6 args) W
set_option maxRecDepth 100000 in
set_option maxHeartbeats 4000000 in
theorem right_some {o : Od} {v : Value} {w : World} {c0 c1 c2 c3 c4 c5 c6 : FuncId} {b0 b1 b2 b3 b4 b5 b6 : Bool} (ho : o.ok) (hk : shapeF o.kd = some (.agg (shp c0 c1 c2 c3 c4 c5 c6))) (hA : Asks o v w c0 c1 c2 c3 c4 c5 c6 b0 b1 b2 b3 b4 b5 b6) :
    Calls Try.prog 13 #[o.val v] w fun e w' => e = .returned (.bool (idB o.cl o.sq && (b0 && (b1 && (b2 && (b3 && (b4 && (b5 && b6)))))))) ∧ Fr No w w' := by
  have HA := Lib.hid hA
  have HID := Lib.hid (ansId o.cl o.sq)
  have HBX := Lib.hid (Blk.new w 26 (o.cs v).toArray)
  have HO := Lib.hid ho
  have HK := Lib.hid hk
  clear ho hk hA
  unfold Od.val
  obtain ⟨ocl, osq, okd, oac, ope, osm, olg, opr, ohd, ont⟩ := o
  unfold Od.cs at *
  go_enter Try.func13, Try.ntmps13
  go_wp2
  refine rg1_some (o := ⟨ocl, osq, okd, oac, ope, osm, olg, opr, ohd, ont⟩) (v := v) HO.out.2.2.1 HBX.out HK.out fun p v5 v6 v7 v8 v9 v10 v11 w2 hbp hf2 => ?_
  unfold rgF
  have HF2 : Hid (Fr No w w2) := ((Fr.refl No w).alloc _).trans hf2
  have hbx := HBX.out.fr hf2 (fun h => h)
  have HBX2 := Lib.hid hbx
  have HBP := Lib.hid hbp
  have HX : Hid (∀ W, Fr No w2 W → W.cell? ⟨w.heap.size, 0, none⟩ = some (.int .i64 ocl) ∧ W.cell? ⟨w.heap.size, 1, none⟩ = some (.int .i64 osq) ∧ W.cell? ⟨w.heap.size, 3, none⟩ = some (.string oac) ∧ W.cell? ⟨w.heap.size, 4, none⟩ = some (.string ope) ∧ W.cell? ⟨w.heap.size, 5, none⟩ = some (.int .i64 osm) ∧ W.cell? ⟨w.heap.size, 6, none⟩ = some v ∧ W.cell? ⟨w.heap.size, 7, none⟩ = some (.int .i64 opr) ∧ W.cell? ⟨w.heap.size, 8, none⟩ = some (.int .i64 ohd) ∧ W.cell? ⟨w.heap.size, 9, none⟩ = some (.string ont)) := fun W hW => by
    have h := HBX2.out.fr hW (fun h => h)
    exact ⟨h.cell 0, h.cell 1, h.cell 3, h.cell 4, h.cell 5, h.cell 6, h.cell 7, h.cell 8, h.cell 9⟩
  have HP : Hid (∀ W, Fr No w2 W → W.cell? ⟨p, 0, none⟩ = some (.func (.func c0) #[] #[]) ∧ W.cell? ⟨p, 1, none⟩ = some (.func (.func c1) #[] #[]) ∧ W.cell? ⟨p, 2, none⟩ = some (.func (.func c2) #[] #[]) ∧ W.cell? ⟨p, 3, none⟩ = some (.func (.func c3) #[] #[]) ∧ W.cell? ⟨p, 4, none⟩ = some (.func (.func c4) #[] #[]) ∧ W.cell? ⟨p, 5, none⟩ = some (.func (.func c5) #[] #[]) ∧ W.cell? ⟨p, 6, none⟩ = some (.func (.func c6) #[] #[])) := fun W hW => by
    have h := HBP.out.fr hW (fun h => h)
    exact ⟨h.cell 0, h.cell 1, h.cell 2, h.cell 3, h.cell 4, h.cell 5, h.cell 6⟩
  clear hbp hf2 hbx HBX HBX2 HBP HK HO
  have a0 := HA.out.a0
  have a1 := HA.out.a1
  have a2 := HA.out.a2
  have a3 := HA.out.a3
  have a4 := HA.out.a4
  have a5 := HA.out.a5
  have a6 := HA.out.a6
  simp only at a0 a1 a2 a3 a4 a5 a6
  have A0 := Lib.hid a0
  have A1 := Lib.hid a1
  have A2 := Lib.hid a2
  have A3 := Lib.hid a3
  have A4 := Lib.hid a4
  have A5 := Lib.hid a5
  have A6 := Lib.hid a6
  have e0 := HA.out.e0
  have e1 := HA.out.e1
  have e2 := HA.out.e2
  have e3 := HA.out.e3
  have e4 := HA.out.e4
  have e5 := HA.out.e5
  have e6 := HA.out.e6
  clear a0 a1 a2 a3 a4 a5 a6 HA
  obtain ⟨x0, x1, x3, x4, x5, x6, x7, x8, x9⟩ := HX.out _ (Fr.refl No w2)
  go_wp2_with fail
  refine (HID.out _).mono ?_
  rintro e u0 ⟨rfl, hg0⟩
  have HG0 := Lib.hid hg0
  clear hg0 x0 x1 x3 x4 x5 x6 x7 x8 x9
  cases hi : idB ocl osq
  · clear e0 e1 e2 e3 e4 e5 e6
    go_wp2
    go_ret
    exact ⟨by rw [hi]; rfl, HF2.out.trans HG0.out⟩
  obtain ⟨x0, x1, x3, x4, x5, x6, x7, x8, x9⟩ := HX.out _ HG0.out
  obtain ⟨y0, y1, y2, y3, y4, y5, y6⟩ := HP.out _ HG0.out
  go_wp2_with fail
  refine (A0.out _).mono ?_
  rintro e u1 ⟨rfl, hg1⟩
  have HG1 := Lib.hid (HG0.out.trans hg1)
  clear hg1 x0 x1 x3 x4 x5 x6 x7 x8 x9 y0 y1 y2 y3 y4 y5 y6
  cases b0
  · clear e0 e1 e2 e3 e4 e5 e6
    go_wp2
    go_ret
    exact ⟨by rw [hi]; rfl, HF2.out.trans HG1.out⟩
  obtain ⟨x0, x1, x3, x4, x5, x6, x7, x8, x9⟩ := HX.out _ HG1.out
  obtain ⟨y0, y1, y2, y3, y4, y5, y6⟩ := HP.out _ HG1.out
  go_wp2_with fail
  refine (A1.out _).mono ?_
  rintro e u2 ⟨rfl, hg2⟩
  have HG2 := Lib.hid (HG1.out.trans hg2)
  clear hg2 x0 x1 x3 x4 x5 x6 x7 x8 x9 y0 y1 y2 y3 y4 y5 y6
  cases b1
  · clear e0 e1 e2 e3 e4 e5 e6
    go_wp2
    go_ret
    exact ⟨by rw [hi]; rfl, HF2.out.trans HG2.out⟩
  obtain ⟨x0, x1, x3, x4, x5, x6, x7, x8, x9⟩ := HX.out _ HG2.out
  obtain ⟨y0, y1, y2, y3, y4, y5, y6⟩ := HP.out _ HG2.out
  go_wp2_with fail
  refine (A2.out _).mono ?_
  rintro e u3 ⟨rfl, hg3⟩
  have HG3 := Lib.hid (HG2.out.trans hg3)
  clear hg3 x0 x1 x3 x4 x5 x6 x7 x8 x9 y0 y1 y2 y3 y4 y5 y6
  cases b2
  · clear e0 e1 e2 e3 e4 e5 e6
    go_wp2
    go_ret
    exact ⟨by rw [hi]; rfl, HF2.out.trans HG3.out⟩
  obtain ⟨x0, x1, x3, x4, x5, x6, x7, x8, x9⟩ := HX.out _ HG3.out
  obtain ⟨y0, y1, y2, y3, y4, y5, y6⟩ := HP.out _ HG3.out
  go_wp2_with fail
  refine (A3.out _ (HF2.out.trans HG3.out)).mono ?_
  rintro e u4 ⟨rfl, hg4⟩
  have HG4 := Lib.hid (HG3.out.trans hg4)
  clear hg4 x0 x1 x3 x4 x5 x6 x7 x8 x9 y0 y1 y2 y3 y4 y5 y6
  cases b3
  · clear e0 e1 e2 e3 e4 e5 e6
    go_wp2
    go_ret
    exact ⟨by rw [hi]; rfl, HF2.out.trans HG4.out⟩
  obtain ⟨x0, x1, x3, x4, x5, x6, x7, x8, x9⟩ := HX.out _ HG4.out
  obtain ⟨y0, y1, y2, y3, y4, y5, y6⟩ := HP.out _ HG4.out
  go_wp2_with fail
  refine (A4.out _).mono ?_
  rintro e u5 ⟨rfl, hg5⟩
  have HG5 := Lib.hid (HG4.out.trans hg5)
  clear hg5 x0 x1 x3 x4 x5 x6 x7 x8 x9 y0 y1 y2 y3 y4 y5 y6
  cases b4
  · clear e0 e1 e2 e3 e4 e5 e6
    go_wp2
    go_ret
    exact ⟨by rw [hi]; rfl, HF2.out.trans HG5.out⟩
  obtain ⟨x0, x1, x3, x4, x5, x6, x7, x8, x9⟩ := HX.out _ HG5.out
  obtain ⟨y0, y1, y2, y3, y4, y5, y6⟩ := HP.out _ HG5.out
  go_wp2_with fail
  refine (A5.out _).mono ?_
  rintro e u6 ⟨rfl, hg6⟩
  have HG6 := Lib.hid (HG5.out.trans hg6)
  clear hg6 x0 x1 x3 x4 x5 x6 x7 x8 x9 y0 y1 y2 y3 y4 y5 y6
  cases b5
  · clear e0 e1 e2 e3 e4 e5 e6
    go_wp2
    go_ret
    exact ⟨by rw [hi]; rfl, HF2.out.trans HG6.out⟩
  obtain ⟨x0, x1, x3, x4, x5, x6, x7, x8, x9⟩ := HX.out _ HG6.out
  obtain ⟨y0, y1, y2, y3, y4, y5, y6⟩ := HP.out _ HG6.out
  go_wp2_with fail
  refine (A6.out _).mono ?_
  rintro e u7 ⟨rfl, hg7⟩
  have HG7 := Lib.hid (HG6.out.trans hg7)
  clear hg7 x0 x1 x3 x4 x5 x6 x7 x8 x9 y0 y1 y2 y3 y4 y5 y6
  clear e0 e1 e2 e3 e4 e5 e6
  go_wp2
  go_ret
  exact ⟨by rw [hi]; rfl, HF2.out.trans HG7.out⟩
set_option maxRecDepth 100000 in
set_option maxHeartbeats 4000000 in
theorem right_none {o : Od} {v : Value} {w : World} (ho : o.ok) (hk : shapeF o.kd = none) :
    Calls Try.prog 13 #[o.val v] w fun e w' => e = .returned (.bool false) ∧ Fr No w w' := by
  have HBX := Lib.hid (Blk.new w 26 (o.cs v).toArray)
  have HO := Lib.hid ho
  have HK := Lib.hid hk
  clear ho hk
  unfold Od.val
  obtain ⟨ocl, osq, okd, oac, ope, osm, olg, opr, ohd, ont⟩ := o
  unfold Od.cs at *
  go_enter Try.func13, Try.ntmps13
  go_wp2
  refine rg1_none (o := ⟨ocl, osq, okd, oac, ope, osm, olg, opr, ohd, ont⟩) (v := v) HO.out.2.2.1 HBX.out HK.out fun p v5 v6 v7 v8 v9 v10 v11 w2 hf2 => ?_
  unfold rgF
  have HF2 : Hid (Fr No w w2) := ((Fr.refl No w).alloc _).trans hf2
  clear hf2 HBX HK HO
  go_wp2
  go_ret
  exact ⟨rfl, HF2.out⟩

theorem k_name (args : Array Value) (W : World) : (callFunc 69 args).run Try.prog W = .ok (.enter 69 args) W := by kernel_rfl
theorem k_1 (args : Array Value) (W : World) : (callFunc 62 args).run Try.prog W = .ok (.enter 62 args) W := by kernel_rfl
theorem k_2 (args : Array Value) (W : World) : (callFunc 63 args).run Try.prog W = .ok (.enter 63 args) W := by kernel_rfl
theorem k_3 (args : Array Value) (W : World) : (callFunc 64 args).run Try.prog W = .ok (.enter 64 args) W := by kernel_rfl
theorem k_4 (args : Array Value) (W : World) : (callFunc 65 args).run Try.prog W = .ok (.enter 65 args) W := by kernel_rfl
theorem k_5 (args : Array Value) (W : World) : (callFunc 66 args).run Try.prog W = .ok (.enter 66 args) W := by kernel_rfl
theorem k_6 (args : Array Value) (W : World) : (callFunc 67 args).run Try.prog W = .ok (.enter 67 args) W := by kernel_rfl
theorem k_7 (args : Array Value) (W : World) : (callFunc 68 args).run Try.prog W = .ok (.enter 68 args) W := by kernel_rfl
theorem k_8 (args : Array Value) (W : World) : (callFunc 70 args).run Try.prog W = .ok (.enter 70 args) W := by kernel_rfl
theorem k_legs (args : Array Value) (W : World) : (callFunc 71 args).run Try.prog W = .ok (.enter 71 args) W := by kernel_rfl
theorem k_per (args : Array Value) (W : World) : (callFunc 72 args).run Try.prog W = .ok (.enter 72 args) W := by kernel_rfl
theorem k_hold (args : Array Value) (W : World) : (callFunc 76 args).run Try.prog W = .ok (.enter 76 args) W := by kernel_rfl
theorem k_note (args : Array Value) (W : World) : (callFunc 73 args).run Try.prog W = .ok (.enter 73 args) W := by kernel_rfl
theorem k_sum (args : Array Value) (W : World) : (callFunc 74 args).run Try.prog W = .ok (.enter 74 args) W := by kernel_rfl
theorem k_peer (args : Array Value) (W : World) : (callFunc 75 args).run Try.prog W = .ok (.enter 75 args) W := by kernel_rfl

/-- which orders may be -/
theorem rightO_any (F : Nat → Prop) (o : Od) (v : Value) (w : World) (ho : o.ok) (hv : LgS w F v o.legs) :
    Calls Try.prog 13 #[o.val v] w fun e w' => e = .returned (.bool (rightO o)) ∧ Fr No w w' := by
  have hLg : ∀ W, Fr No w W → Calls Try.prog 71 #[v] W fun e w' => e = .returned (.bool (rightB o.legs)) ∧ Fr No W w' := fun W hW => by
    obtain ⟨A, c, cells, rfl, hr, hE, h1, h2⟩ := hv.no hW
    exact rightLegs_any F A c cells o.legs W hr hE h1 h2
  have hL4 : ∀ W, Fr No w W → Calls Try.prog 65 #[v] W fun e w' => e = .returned (.bool (o.legs.length == 0)) ∧ Fr No W w' := fun W hW => by
    obtain ⟨A, c, cells, rfl, hr, hE, h1, h2⟩ := hv
    exact ans4 A o.legs.length c W
  have hName := ansName o.acct ho.2.2.2.1
  have hPeer := ansPeer o.peer o.acct ho.2.2.2.2.1
  by_cases hk : 1 ≤ o.kd ∧ o.kd ≤ 7
  · have e1 : decide (1 ≤ o.kd) = true := decide_eq_true hk.1
    have e2 : decide (o.kd ≤ 7) = true := decide_eq_true hk.2
    unfold rightO
    rw [e1, e2, Bool.true_and, Bool.true_and]
    have h7 : o.kd = 1 ∨ o.kd = 2 ∨ o.kd = 3 ∨ o.kd = 4 ∨ o.kd = 5 ∨ o.kd = 6 ∨ o.kd = 7 := by omega
    unfold acctB peerB sumB legsB perB holdB noteB
    rcases h7 with h | h | h | h | h | h | h <;> simp only [h, Int.reduceEq, if_true, if_false, or_true, true_or, or_false, or_self, false_or]
    · exact right_some ho (by rw [h]; rfl) ⟨hName, ans2 _ _, ans8 _, hL4, ans5 _, ans6 _, ans7 _, k_name, k_2, k_8, k_4, k_5, k_6, k_7⟩
    · exact right_some ho (by rw [h]; rfl) ⟨ans1 _, ans2 _ _, ans3 _, hLg, ansPeriod _, ans6 _, ansNote _, k_1, k_2, k_3, k_legs, k_per, k_6, k_note⟩
    · exact right_some ho (by rw [h]; rfl) ⟨hName, ans2 _ _, ansSum _, hL4, ans5 _, ans6 _, ans7 _, k_name, k_2, k_sum, k_4, k_5, k_6, k_7⟩
    · exact right_some ho (by rw [h]; rfl) ⟨hName, hPeer, ansSum _, hL4, ansPeriod _, ansHold _, ans7 _, k_name, k_peer, k_sum, k_4, k_per, k_hold, k_7⟩
    · exact right_some ho (by rw [h]; rfl) ⟨hName, ans2 _ _, ans3 _, hL4, ans5 _, ansHold _, ans7 _, k_name, k_2, k_3, k_4, k_5, k_hold, k_7⟩
    · exact right_some ho (by rw [h]; rfl) ⟨ans1 _, ans2 _ _, ans3 _, hL4, ansPeriod _, ans6 _, ans7 _, k_1, k_2, k_3, k_4, k_per, k_6, k_7⟩
    · exact right_some ho (by rw [h]; rfl) ⟨hName, ans2 _ _, ans3 _, hL4, ans5 _, ans6 _, ans7 _, k_name, k_2, k_3, k_4, k_5, k_6, k_7⟩
  · have e : rightO o = false := by
      unfold rightO
      by_cases h1 : 1 ≤ o.kd
      · have : decide (o.kd ≤ 7) = false := decide_eq_false (fun h => hk ⟨h1, h⟩)
        rw [this, Bool.false_and, Bool.and_false]
      · rw [decide_eq_false h1, Bool.false_and]
    rw [e]
    exact right_none ho (shapeF_none hk)
end Go.Proofs.Ytlcbbkookjmnkaa
