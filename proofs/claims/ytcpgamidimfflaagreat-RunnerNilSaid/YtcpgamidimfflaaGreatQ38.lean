/- A runner that isn't there. -/
import Derived.Test.YtcpgamidimfflaaGreatQ37
namespace Go.Proofs.YtcpgamidimfflaaGreat
open Go.RowKit Go.My Go.Maps
set_option linter.unusedSimpArgs false
set_option linter.unusedVariables false
attribute [local go_sem ↓] Go.wp_at_zero Go.wp_at_succ
set_option maxRecDepth 100000 in
theorem nrun (w : World) : Calls Tryz.prog 18 #[.pointer none] w fun e w' => e = .returned (.slice none 0 0) ∧ Fr No w w' := by
  go_enter Tryz.func18, Tryz.ntmps18
  go_wp2
  go_ret
  exact ⟨rfl, Fr.refl _ _⟩
set_option maxRecDepth 100000 in
theorem nlist (w : World) : Calls Tryz.prog 23 #[.pointer none] w fun e w' => e = .returned (.slice none 0 0) ∧ Fr No w w' := by
  go_enter Tryz.func23, Tryz.ntmps23
  go_wp2
  go_ret
  exact ⟨rfl, Fr.refl _ _⟩
set_option maxRecDepth 100000 in
theorem nbook (w : World) : Calls Tryz.prog 34 #[.pointer none] w fun e w' => e = .returned (.pointer none) ∧ Fr No w w' := by
  go_enter Tryz.func34, Tryz.ntmps34
  go_wp2
  go_ret
  exact ⟨rfl, Fr.refl _ _⟩
set_option maxRecDepth 100000 in
theorem nknown (w : World) : Calls Tryz.prog 25 #[.pointer none] w fun e w' => e = .returned (.slice none 0 0) ∧ Fr No w w' := by
  go_enter Tryz.func25, Tryz.ntmps25
  go_wp2
  go_ret
  exact ⟨rfl, Fr.refl _ _⟩
set_option maxRecDepth 100000 in
theorem nwaits (w : World) : Calls Tryz.prog 27 #[.pointer none] w fun e w' => e = .returned (.slice none 0 0) ∧ Fr No w w' := by
  go_enter Tryz.func27, Tryz.ntmps27
  go_wp2
  go_ret
  exact ⟨rfl, Fr.refl _ _⟩
set_option maxRecDepth 100000 in
theorem nmiss (w : World) : Calls Tryz.prog 28 #[.pointer none] w fun e w' => e = .returned (.slice none 0 0) ∧ Fr No w w' := by
  go_enter Tryz.func28, Tryz.ntmps28
  go_wp2
  go_ret
  exact ⟨rfl, Fr.refl _ _⟩
set_option maxRecDepth 100000 in
theorem ncommit (w : World) (a b : Int) (x0 x1 x2 x3 x4 x5 x6 x7 x8 x9 x10 x11 : Value) : Calls Tryz.prog 15 #[.pointer none, .agg #[.int .i64 a, .int .i64 b], .agg #[x0, x1, x2, x3, x4, x5, x6, x7, x8, x9, x10, x11]] w fun e w' => e = .returned (.int .i64 1) ∧ Fr No w w' := by
  go_enter Tryz.func15, Tryz.ntmps15
  go_wp2
  go_ret
  exact ⟨rfl, ((Fr.refl _ _).alloc _).alloc _⟩
set_option maxRecDepth 100000 in
theorem ntold (w : World) (a b : Int) : Calls Tryz.prog 20 #[.pointer none, .agg #[.int .i64 a, .int .i64 b]] w fun e w' => e = .returned (.tuple #[.agg #[.int .i64 0, .int .i64 0, .int .i64 0, .int .i64 0], .bool false]) ∧ Fr No w w' := by
  go_enter Tryz.func20, Tryz.ntmps20
  go_wp2
  have hd := Blk.new (w.alloc (.cells #[.int .i64 a, .int .i64 b] 32)) 50 #[.int .i64 0, .int .i64 0, .int .i64 0, .int .i64 0]
  rw [World.size_alloc] at hd
  have d0 := hd.cell 0
  have d1 := hd.cell 1
  have d2 := hd.cell 2
  have d3 := hd.cell 3
  simp only [List.getElem?_toArray, List.getElem?_cons_zero, List.getElem?_cons_succ] at d0 d1 d2 d3
  refine bodyPost_ret (v := .tuple #[.agg #[.int .i64 0, .int .i64 0, .int .i64 0, .int .i64 0], .bool false]) (by simp [results, Tryz.results20, go_sem, d0, d1, d2, d3]) rfl ?_
  exact ⟨rfl, ((Fr.refl _ _).alloc _).alloc _⟩
set_option maxRecDepth 100000 in
set_option maxHeartbeats 2000000 in
theorem runnerNil_walk (i : In2) (e : En) (v : Value) (A : Option Addr) (c : Nat) (w : World) (hs : EnI w e v A c) :
    Calls Tryz.prog 6 #[.agg #[.int .i64 i.1, .int .i64 i.2], e.val v (.slice A e.deps.length c)] w (RetTrue w) := by
  have HLV : Hid (∀ W, Calls Tryz.prog 9 #[] W (RetTrue W)) := Lib.hid lives14
  have hdl : e.deps.length ≤ 9223372036854775807 := Nat.le_trans (Nat.le_trans hs.1.cap.1 hs.1.cap.2) (by simp [maxLen])
  have HSM : Hid (∀ W, Below w.heap.size w W → Calls Tryz.prog 37 #[e.val v (.slice A e.deps.length c), e.val v (.slice A e.deps.length c)] W fun x w' => x = .returned (.bool true) ∧ Fr No W w') := Lib.hid fun W hW => by
    have hk : EnS W (Lt w.heap.size) e v A c := ⟨hs.1.ok, hs.1.legs.below hW, hs.1.deps.below hW (fun _ h => h), hs.1.cap⟩
    have h1 := same14_any2 _ _ e e v v A A c c W hk hk hdl
    rw [(sameE_iff e e).2 rfl] at h1
    exact h1
  obtain ⟨vB, vd, rfl, -, hcm⟩ := hs.1.legs.form
  clear hs hdl hcm
  generalize e.o.legs.length = vn at *
  generalize e.deps.length = q at *
  obtain ⟨⟨x0, x1, x2, x3, x4, x5, lg, x7, x8, x9⟩, bn, ds⟩ := e
  have HAH : Hid (∀ W, Calls Tryz.prog 38 #[.agg #[.int .i64 i.1, .int .i64 i.2], .agg #[.int .i64 i.1, .int .i64 i.2]] W fun e w' => e = .returned (.bool false) ∧ Fr No W w') := Lib.hid fun W => by
    have := ahead14_any i i W
    rwa [aheadI_irrefl] at this
  obtain ⟨i1, i2⟩ := i
  unfold En.val at *
  simp only at HSM HAH ⊢
  have HFA : Hid (Fr No w ((w.alloc (.cells #[.int .i64 i1, .int .i64 i2] 30)).alloc (.cells #[.int .i64 x0, .int .i64 x1, .int .i64 x2, .string x3, .string x4, .int .i64 x5, .slice vB vn vd, .int .i64 x7, .int .i64 x8, .string x9, .bool bn, .slice A q c] 38))) := Lib.hid (((Fr.refl _ _).alloc _).alloc _)
  have hb0 := (Blk.new w 30 #[.int .i64 i1, .int .i64 i2]).alloc (.cells #[.int .i64 x0, .int .i64 x1, .int .i64 x2, .string x3, .string x4, .int .i64 x5, .slice vB vn vd, .int .i64 x7, .int .i64 x8, .string x9, .bool bn, .slice A q c] 38)
  have hb1 := Blk.new (w.alloc (.cells #[.int .i64 i1, .int .i64 i2] 30)) 38 #[.int .i64 x0, .int .i64 x1, .int .i64 x2, .string x3, .string x4, .int .i64 x5, .slice vB vn vd, .int .i64 x7, .int .i64 x8, .string x9, .bool bn, .slice A q c]
  rw [World.size_alloc] at hb1
  have HSZ : Hid (((w.alloc (.cells #[.int .i64 i1, .int .i64 i2] 30)).alloc (.cells #[.int .i64 x0, .int .i64 x1, .int .i64 x2, .string x3, .string x4, .int .i64 x5, .slice vB vn vd, .int .i64 x7, .int .i64 x8, .string x9, .bool bn, .slice A q c] 38)).heap.size = w.heap.size + 2) := Lib.hid (by simp)
  go_enter Tryz.func6, Tryz.ntmps6
  go_upto_region 1 with (fail)
  generalize ((w.alloc (.cells #[.int .i64 i1, .int .i64 i2] 30)).alloc (.cells #[.int .i64 x0, .int .i64 x1, .int .i64 x2, .string x3, .string x4, .int .i64 x5, .slice vB vn vd, .int .i64 x7, .int .i64 x8, .string x9, .bool bn, .slice A q c] 38)) = w2 at *
  have HB0 := Lib.hid hb0
  have HB1 := Lib.hid hb1
  clear hb0 hb1
  go_upto_region 3 with (go_at_call 9; (with_reducible refine (HLV.out _).mono ?_); rintro _ w3 ⟨rfl, hf3⟩; have HF3 := Lib.hid hf3; clear hf3)
  have hb3 := HB0.out.below HF3.out (by rw [HSZ.out]; omega)
  have hb4 := HB1.out.below HF3.out (by rw [HSZ.out]; omega)
  have HBW : Hid (Below w.heap.size w w3) := Lib.hid (HFA.out.belowNo.trans (HF3.out.mono HFA.out.size))
  have HSL : Hid (w.heap.size ≤ w3.heap.size) := Lib.hid (Nat.le_trans HFA.out.size HF3.out.size)
  have i0 := hb3.cell 0
  have i1' := hb3.cell 1
  have e0 := hb4.cell 0
  have e1 := hb4.cell 1
  have e2 := hb4.cell 2
  have e3 := hb4.cell 3
  have e4 := hb4.cell 4
  have e5 := hb4.cell 5
  have e6 := hb4.cell 6
  have e7 := hb4.cell 7
  have e8 := hb4.cell 8
  have e9 := hb4.cell 9
  have e10 := hb4.cell 10
  have e11 := hb4.cell 11
  simp only [List.getElem?_toArray, List.getElem?_cons_zero, List.getElem?_cons_succ] at i0 i1' e0 e1 e2 e3 e4 e5 e6 e7 e8 e9 e10 e11
  have HB3 := Lib.hid hb3
  have HB4 := Lib.hid hb4
  clear hb3 hb4 HB0 HB1 HF3
  go_upto_region 5 with (go_at_call 20; (with_reducible refine (ntold _ _ _).mono ?_); rintro _ w4 ⟨rfl, hf4⟩; have HF4 := Lib.hid hf4; clear hf4)
  have HF5 : Hid (Fr No w3 (w4.alloc (.cells #[.int .i64 0, .int .i64 0, .int .i64 0, .int .i64 0] 50))) := Lib.hid (HF4.out.alloc _)
  generalize w4.alloc (.cells #[.int .i64 0, .int .i64 0, .int .i64 0, .int .i64 0] 50) = w5 at *
  have hb3 := HB3.out.fr HF5.out (fun h => h)
  have hb4 := HB4.out.fr HF5.out (fun h => h)
  clear i0 i1' e0 e1 e2 e3 e4 e5 e6 e7 e8 e9 e10 e11
  have i0 := hb3.cell 0
  have i1' := hb3.cell 1
  have e0 := hb4.cell 0
  have e1 := hb4.cell 1
  have e2 := hb4.cell 2
  have e3 := hb4.cell 3
  have e4 := hb4.cell 4
  have e5 := hb4.cell 5
  have e6 := hb4.cell 6
  have e7 := hb4.cell 7
  have e8 := hb4.cell 8
  have e9 := hb4.cell 9
  have e10 := hb4.cell 10
  have e11 := hb4.cell 11
  simp only [List.getElem?_toArray, List.getElem?_cons_zero, List.getElem?_cons_succ] at i0 i1' e0 e1 e2 e3 e4 e5 e6 e7 e8 e9 e10 e11
  clear hb3 hb4
  go_wp2_with (first
    | (go_at_call 15; (with_reducible refine (ncommit _ _ _ _ _ _ _ _ _ _ _ _ _ _ _).mono ?_); rintro _ y1 ⟨rfl, h1⟩; have G1 := Lib.hid (HF5.out.trans h1); clear h1)
    | (go_at_call 18; (with_reducible refine (nrun _).mono ?_); rintro _ y2 ⟨rfl, h1⟩; have G2 := Lib.hid (G1.out.trans h1); clear h1)
    | (go_at_call 23; (with_reducible refine (nlist _).mono ?_); rintro _ y3 ⟨rfl, h1⟩; have G3 := Lib.hid (G2.out.trans h1); clear h1)
    | (go_at_call 34; (with_reducible refine (nbook _).mono ?_); rintro _ y4 ⟨rfl, h1⟩; have G4 := Lib.hid (G3.out.trans h1); clear h1)
    | (go_at_call 25; (with_reducible refine (nknown _).mono ?_); rintro _ y5 ⟨rfl, h1⟩; have G5 := Lib.hid (G4.out.trans h1); clear h1)
    | (go_at_call 27; (with_reducible refine (nwaits _).mono ?_); rintro _ y6 ⟨rfl, h1⟩; have G6 := Lib.hid (G5.out.trans h1); clear h1)
    | (go_at_call 28; (with_reducible refine (nmiss _).mono ?_); rintro _ y7 ⟨rfl, h1⟩; have G7 := Lib.hid (G6.out.trans h1); have B7 := HB3.out.fr G7.out (fun h => h); have D7 := HB4.out.fr G7.out (fun h => h); have j0 := D7.cell 0; have j1 := D7.cell 1; have j2 := D7.cell 2; have j3 := D7.cell 3; have j4 := D7.cell 4; have j5 := D7.cell 5; have j6 := D7.cell 6; have j7 := D7.cell 7; have j8 := D7.cell 8; have j9 := D7.cell 9; have j10 := D7.cell 10; have j11 := D7.cell 11; simp only [List.getElem?_toArray, List.getElem?_cons_zero, List.getElem?_cons_succ] at j0 j1 j2 j3 j4 j5 j6 j7 j8 j9 j10 j11; have HB7 := Lib.hid B7; clear h1 B7 D7)
    | (go_at_call 37; (with_reducible refine (HSM.out _ (below_fr_no HBW.out G7.out HSL.out)).mono ?_); rintro _ y8 ⟨rfl, h1⟩; have G8 := Lib.hid (G7.out.trans h1); have B8 := HB7.out.fr h1 (fun h => h); have l0 := B8.cell 0; have l1 := B8.cell 1; simp only [List.getElem?_toArray, List.getElem?_cons_zero, List.getElem?_cons_succ] at l0 l1; clear h1 B8)
    | (go_at_call 38; (with_reducible refine (HAH.out _).mono ?_); rintro _ y9 ⟨rfl, h1⟩; have G9 := Lib.hid (G8.out.trans h1); clear h1))
  go_ret
  exact ⟨rfl, below_fr_no HBW.out G9.out HSL.out⟩
theorem runnerNil_w (v : Value) (x : In2) (v' : Value) (y : En × Value × Option Addr × Nat) (w : World) (hv : v = .agg #[.int .i64 x.1, .int .i64 x.2] ∧ IdOk x) (hv' : v' = y.1.val y.2.1 (.slice y.2.2.1 y.1.deps.length y.2.2.2) ∧ EnI w y.1 y.2.1 y.2.2.1 y.2.2.2) :
    Calls Tryz.prog 6 #[v, v'] w fun e w' => e = .returned (.bool true) ∧ Below w.heap.size w w' := by
  obtain ⟨rfl, h1⟩ := hv
  obtain ⟨rfl, h2⟩ := hv'
  exact runnerNil_walk x y.1 y.2.1 y.2.2.1 y.2.2.2 w h2
end Go.Proofs.YtcpgamidimfflaaGreat
