/- Contracts of package order: shapes, as a table. Contracts of package order: what the fields of a kind's orders may be. Contracts of package order: legs. Contracts of package order: rightLegs. Contracts of package order: Right. Contracts of package order: Right, its first region. -/
import Derived.Test.YtlanhclgbkhdlaaGreatQ08
import Derived.Deep.DrawnRows
import Derived.Sort.Walk0
import Derived.Deep.RegionHeld3
namespace Go.Proofs.YtlanhclgbkhdlaaGreat
open Go.RowKit Go.My Go.Maps
set_option linter.unusedSimpArgs false
set_option linter.unusedVariables false

/-- the functions that look at the fields of a kind's orders -/
def shapeF (k : Int) : Option Value :=
  if k = 7 then some (.agg (shp 30 84 85 86 87 88 89))
  else if k = 6 then some (.agg (shp 83 84 85 86 92 88 89))
  else if k = 5 then some (.agg (shp 30 84 85 86 87 96 89))
  else if k = 4 then some (.agg (shp 30 95 94 86 92 96 89))
  else if k = 3 then some (.agg (shp 30 84 94 86 87 88 89))
  else if k = 2 then some (.agg (shp 83 84 85 91 92 88 93))
  else if k = 1 then some (.agg (shp 30 84 90 86 87 88 89))
  else none
/-- seven structs of their own -/
def S7 (w : World) (g : Nat → Nat) (F : Nat → Array Value) : Prop := ∀ j, j < 7 → Blk w (g j) 127 (F j)
def Inj7 (g : Nat → Nat) : Prop := ∀ j k, j < 7 → k < 7 → g j = g k → j = k
theorem S7.set_ {w : World} {g : Nat → Nat} {F : Nat → Array Value} (h : S7 w g F) (hi : Inj7 g) (i k : Nat) (hk : i < 7) (v : Value) : S7 (w.setCell ⟨g i, k, none⟩ v) g (fun j => if j = i then (F j).setIfInBounds k v else F j) := fun j hj => by
  by_cases e : j = i
  · subst e
    simp only [if_pos]
    exact (h j hj).set_ k v
  · simp only [if_neg e]
    exact (h j hj).far (fun e2 => e (hi j i hj hk e2)) v
theorem S7.fr {w w' : World} {g : Nat → Nat} {F : Nat → Array Value} {S : Nat → Prop} (h : S7 w g F) (hf : Fr S w w') (hn : ∀ j, j < 7 → ¬ S (g j)) : S7 w' g F := fun j hj => (h j hj).fr hf (hn j hj)
theorem S7.congr {w : World} {g : Nat → Nat} {F G : Nat → Array Value} (h : S7 w g F) (e : ∀ j, j < 7 → F j = G j) : S7 w g G := fun j hj => by rw [← e j hj]; exact h j hj
def shE : Array Value := shp 83 84 85 86 87 88 89
def shFin (j : Nat) : Array Value :=
  if j = 0 then shp 30 84 90 86 87 88 89
  else if j = 1 then shp 83 84 85 91 92 88 93
  else if j = 2 then shp 30 84 94 86 87 88 89
  else if j = 3 then shp 30 95 94 86 92 96 89
  else if j = 4 then shp 30 84 85 86 87 96 89
  else if j = 5 then shp 83 84 85 86 92 88 89
  else shp 30 84 85 86 87 88 89
set_option maxRecDepth 100000 in
set_option maxHeartbeats 4000000 in
theorem shapes_any (w : World) : Calls Tryz.prog 59 #[] w fun e w' => ∃ m, e = .returned (.map (some m)) ∧ Tab Tryz.prog 3 w' m 7 shapeF ∧ Fr No w w' := by
  have hb := Blk.new w 127 shE
  have hfw : Fr No w (w.alloc (.cells shE 127)) := (Fr.refl _ _).alloc _
  go_enter Tryz.func59, Tryz.ntmps59
  go_wp2
  refine sh_region (c0 := 83) (c1 := 84) (c2 := 85) (c3 := 86) (c4 := 87) (c5 := 88) (c6 := 89) hb fun g w2 hS hI hf2 => ?_
  have HI : Hid (Inj7 g) := hI
  have HS : Hid (S7 w2 g (fun _ => shE)) := fun j hj => (hS j hj).2
  have HG : Hid (∀ j, j < 7 → w.heap.size ≤ g j) := fun j hj => by
    have := (hS j hj).1
    rw [World.size_alloc] at this
    omega
  have HF : Hid (Fr No w w2) := hfw.trans hf2
  clear hb hfw hS hI hf2
  unfold shFrame
  have hx := HS.out 0 (by omega)
  have x0 := hx.cell 0
  have f0 := hx.frozen 0
  have x2 := hx.cell 2
  have f2 := hx.frozen 2
  simp only [shE, shp, fnV, if_true, if_false, List.getElem?_toArray, List.getElem?_cons_zero, List.getElem?_cons_succ, Array.getElem?_setIfInBounds, Nat.reduceEqDiff] at x0 x2
  go_upto_region 4 with (fail)
  have HS' := Lib.hid ((HS.out.set_ HI.out 0 0 (by omega) (.func (.func 30) #[] #[])).set_ HI.out 0 2 (by omega) (.func (.func 90) #[] #[]))
  have HF' : Hid (Fr No w _) := ((HF.out.setCell (p := ⟨g 0, 0, none⟩) (fun h => absurd h (by have := HG.out 0 (by omega); simp only; omega)) (.func (.func 30) #[] #[])).setCell (p := ⟨g 0, 2, none⟩) (fun h => absurd h (by have := HG.out 0 (by omega); simp only; omega)) (.func (.func 90) #[] #[]))
  clear hx x0 f0 x2 f2 HS HF
  have HS := HS'
  have HF := HF'
  clear HS' HF'
  generalize ((w2.setCell ⟨g 0, 0, none⟩ (.func (.func 30) #[] #[])).setCell ⟨g 0, 2, none⟩ (.func (.func 90) #[] #[])) = w3 at *
  have hx := HS.out 1 (by omega)
  have x3 := hx.cell 3
  have f3 := hx.frozen 3
  have x4 := hx.cell 4
  have f4 := hx.frozen 4
  have x6 := hx.cell 6
  have f6 := hx.frozen 6
  simp only [shE, shp, fnV, if_true, if_false, List.getElem?_toArray, List.getElem?_cons_zero, List.getElem?_cons_succ, Array.getElem?_setIfInBounds, Nat.reduceEqDiff] at x3 x4 x6
  go_upto_region 5 with (fail)
  have HS' := Lib.hid (((HS.out.set_ HI.out 1 3 (by omega) (.func (.func 91) #[] #[])).set_ HI.out 1 4 (by omega) (.func (.func 92) #[] #[])).set_ HI.out 1 6 (by omega) (.func (.func 93) #[] #[]))
  have HF' : Hid (Fr No w _) := (((HF.out.setCell (p := ⟨g 1, 3, none⟩) (fun h => absurd h (by have := HG.out 1 (by omega); simp only; omega)) (.func (.func 91) #[] #[])).setCell (p := ⟨g 1, 4, none⟩) (fun h => absurd h (by have := HG.out 1 (by omega); simp only; omega)) (.func (.func 92) #[] #[])).setCell (p := ⟨g 1, 6, none⟩) (fun h => absurd h (by have := HG.out 1 (by omega); simp only; omega)) (.func (.func 93) #[] #[]))
  clear hx x3 f3 x4 f4 x6 f6 HS HF
  have HS := HS'
  have HF := HF'
  clear HS' HF'
  generalize (((w3.setCell ⟨g 1, 3, none⟩ (.func (.func 91) #[] #[])).setCell ⟨g 1, 4, none⟩ (.func (.func 92) #[] #[])).setCell ⟨g 1, 6, none⟩ (.func (.func 93) #[] #[])) = w4 at *
  have hx := HS.out 2 (by omega)
  have x0 := hx.cell 0
  have f0 := hx.frozen 0
  have x2 := hx.cell 2
  have f2 := hx.frozen 2
  simp only [shE, shp, fnV, if_true, if_false, List.getElem?_toArray, List.getElem?_cons_zero, List.getElem?_cons_succ, Array.getElem?_setIfInBounds, Nat.reduceEqDiff] at x0 x2
  go_upto_region 6 with (fail)
  have HS' := Lib.hid ((HS.out.set_ HI.out 2 0 (by omega) (.func (.func 30) #[] #[])).set_ HI.out 2 2 (by omega) (.func (.func 94) #[] #[]))
  have HF' : Hid (Fr No w _) := ((HF.out.setCell (p := ⟨g 2, 0, none⟩) (fun h => absurd h (by have := HG.out 2 (by omega); simp only; omega)) (.func (.func 30) #[] #[])).setCell (p := ⟨g 2, 2, none⟩) (fun h => absurd h (by have := HG.out 2 (by omega); simp only; omega)) (.func (.func 94) #[] #[]))
  clear hx x0 f0 x2 f2 HS HF
  have HS := HS'
  have HF := HF'
  clear HS' HF'
  generalize ((w4.setCell ⟨g 2, 0, none⟩ (.func (.func 30) #[] #[])).setCell ⟨g 2, 2, none⟩ (.func (.func 94) #[] #[])) = w5 at *
  have hx := HS.out 3 (by omega)
  have x0 := hx.cell 0
  have f0 := hx.frozen 0
  have x1 := hx.cell 1
  have f1 := hx.frozen 1
  have x2 := hx.cell 2
  have f2 := hx.frozen 2
  simp only [shE, shp, fnV, if_true, if_false, List.getElem?_toArray, List.getElem?_cons_zero, List.getElem?_cons_succ, Array.getElem?_setIfInBounds, Nat.reduceEqDiff] at x0 x1 x2
  go_upto_region 7 with (fail)
  have HS' := Lib.hid (((HS.out.set_ HI.out 3 0 (by omega) (.func (.func 30) #[] #[])).set_ HI.out 3 1 (by omega) (.func (.func 95) #[] #[])).set_ HI.out 3 2 (by omega) (.func (.func 94) #[] #[]))
  have HF' : Hid (Fr No w _) := (((HF.out.setCell (p := ⟨g 3, 0, none⟩) (fun h => absurd h (by have := HG.out 3 (by omega); simp only; omega)) (.func (.func 30) #[] #[])).setCell (p := ⟨g 3, 1, none⟩) (fun h => absurd h (by have := HG.out 3 (by omega); simp only; omega)) (.func (.func 95) #[] #[])).setCell (p := ⟨g 3, 2, none⟩) (fun h => absurd h (by have := HG.out 3 (by omega); simp only; omega)) (.func (.func 94) #[] #[]))
  clear hx x0 f0 x1 f1 x2 f2 HS HF
  have HS := HS'
  have HF := HF'
  clear HS' HF'
  generalize (((w5.setCell ⟨g 3, 0, none⟩ (.func (.func 30) #[] #[])).setCell ⟨g 3, 1, none⟩ (.func (.func 95) #[] #[])).setCell ⟨g 3, 2, none⟩ (.func (.func 94) #[] #[])) = w6 at *
  have hx := HS.out 3 (by omega)
  have x5 := hx.cell 5
  have f5 := hx.frozen 5
  have x4 := hx.cell 4
  have f4 := hx.frozen 4
  simp only [shE, shp, fnV, if_true, if_false, List.getElem?_toArray, List.getElem?_cons_zero, List.getElem?_cons_succ, Array.getElem?_setIfInBounds, Nat.reduceEqDiff] at x5 x4
  go_upto_region 8 with (fail)
  have HS' := Lib.hid ((HS.out.set_ HI.out 3 5 (by omega) (.func (.func 96) #[] #[])).set_ HI.out 3 4 (by omega) (.func (.func 92) #[] #[]))
  have HF' : Hid (Fr No w _) := ((HF.out.setCell (p := ⟨g 3, 5, none⟩) (fun h => absurd h (by have := HG.out 3 (by omega); simp only; omega)) (.func (.func 96) #[] #[])).setCell (p := ⟨g 3, 4, none⟩) (fun h => absurd h (by have := HG.out 3 (by omega); simp only; omega)) (.func (.func 92) #[] #[]))
  clear hx x5 f5 x4 f4 HS HF
  have HS := HS'
  have HF := HF'
  clear HS' HF'
  generalize ((w6.setCell ⟨g 3, 5, none⟩ (.func (.func 96) #[] #[])).setCell ⟨g 3, 4, none⟩ (.func (.func 92) #[] #[])) = w7 at *
  have hx := HS.out 4 (by omega)
  have x0 := hx.cell 0
  have f0 := hx.frozen 0
  have x5 := hx.cell 5
  have f5 := hx.frozen 5
  simp only [shE, shp, fnV, if_true, if_false, List.getElem?_toArray, List.getElem?_cons_zero, List.getElem?_cons_succ, Array.getElem?_setIfInBounds, Nat.reduceEqDiff] at x0 x5
  go_upto_region 9 with (fail)
  have HS' := Lib.hid ((HS.out.set_ HI.out 4 0 (by omega) (.func (.func 30) #[] #[])).set_ HI.out 4 5 (by omega) (.func (.func 96) #[] #[]))
  have HF' : Hid (Fr No w _) := ((HF.out.setCell (p := ⟨g 4, 0, none⟩) (fun h => absurd h (by have := HG.out 4 (by omega); simp only; omega)) (.func (.func 30) #[] #[])).setCell (p := ⟨g 4, 5, none⟩) (fun h => absurd h (by have := HG.out 4 (by omega); simp only; omega)) (.func (.func 96) #[] #[]))
  clear hx x0 f0 x5 f5 HS HF
  have HS := HS'
  have HF := HF'
  clear HS' HF'
  generalize ((w7.setCell ⟨g 4, 0, none⟩ (.func (.func 30) #[] #[])).setCell ⟨g 4, 5, none⟩ (.func (.func 96) #[] #[])) = w8 at *
  have hx := HS.out 5 (by omega)
  have x4 := hx.cell 4
  have f4 := hx.frozen 4
  simp only [shE, shp, fnV, if_true, if_false, List.getElem?_toArray, List.getElem?_cons_zero, List.getElem?_cons_succ, Array.getElem?_setIfInBounds, Nat.reduceEqDiff] at x4
  go_upto_region 10 with (fail)
  have HS' := Lib.hid (HS.out.set_ HI.out 5 4 (by omega) (.func (.func 92) #[] #[]))
  have HF' : Hid (Fr No w _) := (HF.out.setCell (p := ⟨g 5, 4, none⟩) (fun h => absurd h (by have := HG.out 5 (by omega); simp only; omega)) (.func (.func 92) #[] #[]))
  clear hx x4 f4 HS HF
  have HS := HS'
  have HF := HF'
  clear HS' HF'
  generalize (w8.setCell ⟨g 5, 4, none⟩ (.func (.func 92) #[] #[])) = w9 at *
  have hx := HS.out 6 (by omega)
  have x0 := hx.cell 0
  have f0 := hx.frozen 0
  simp only [shE, shp, fnV, if_true, if_false, List.getElem?_toArray, List.getElem?_cons_zero, List.getElem?_cons_succ, Array.getElem?_setIfInBounds, Nat.reduceEqDiff] at x0
  go_upto_region 11 with (fail)
  have HS' := Lib.hid (HS.out.set_ HI.out 6 0 (by omega) (.func (.func 30) #[] #[]))
  have HF' : Hid (Fr No w _) := (HF.out.setCell (p := ⟨g 6, 0, none⟩) (fun h => absurd h (by have := HG.out 6 (by omega); simp only; omega)) (.func (.func 30) #[] #[]))
  clear hx x0 f0 HS HF
  have HS := HS'
  have HF := HF'
  clear HS' HF'
  generalize (w9.setCell ⟨g 6, 0, none⟩ (.func (.func 30) #[] #[])) = w10 at *
  have HS1 := Lib.hid (HS.out.congr (G := shFin) fun j hj => by match j, hj with
    | 0, _ | 1, _ | 2, _ | 3, _ | 4, _ | 5, _ | 6, _ => rfl)
  clear HS
  have HS := HS1
  clear HS1
  have HS0 := HS
  have HT : Hid (Tab Tryz.prog 3 (w10.alloc (.map #[] 0)) w10.heap.size 0 (fun _ => none)) := Tab.made w10
  have HM := Lib.hid (HF.out.alloc (.map #[] 0))
  have HS1 := Lib.hid (HS.out.fr ((Fr.refl No w10).alloc (.map #[] 0)) (fun _ _ h => h))
  clear HS
  have HS := HS1
  clear HS1
  have hmk := @run_makeMap Tryz.prog
  have HN : Hid (∀ j, j < 7 → g j ≠ w10.heap.size) := fun j hj => by
    have := (HS.out j hj).lt
    have h2 : g j < w10.heap.size := (HS0.out j hj).lt
    omega
  have HZ : Hid (w.heap.size ≤ w10.heap.size) := HF.out.size
  clear HS0
  clear HF
  have hx := HS.out 0 (by omega)
  have x00 := hx.cell 0
  have x01 := hx.cell 1
  have x02 := hx.cell 2
  have x03 := hx.cell 3
  have x04 := hx.cell 4
  have x05 := hx.cell 5
  have x06 := hx.cell 6
  simp only [shFin, shp, fnV, if_true, if_false, List.getElem?_toArray, List.getElem?_cons_zero, List.getElem?_cons_succ, Nat.reduceEqDiff] at x00 x01 x02 x03 x04 x05 x06
  clear hx
  obtain ⟨u0, hr0, hT0, hf0⟩ := HT.out.put Tryz.underlying3 Tryz.underlying129 (by unfold maxLen; omega) 1 (by unfold In64; omega) (.agg (shFin 0))
  simp only [shFin, shp, fnV, if_true, if_false, Nat.reduceEqDiff] at hr0
  have HT' := Lib.hid hT0
  have HS' := Lib.hid (HS.out.fr hf0 (fun j hj h => HN.out j hj h))
  have HM' : Hid (Fr No w u0) := HM.out.trans' hf0 (fun i hi hlt => by have : i = w10.heap.size := hi; have := HZ.out; omega)
  clear HT HS HM hT0 hf0
  have HT := HT'
  have HS := HS'
  have HM := HM'
  clear HT' HS' HM'
  have hx := HS.out 1 (by omega)
  have x10 := hx.cell 0
  have x11 := hx.cell 1
  have x12 := hx.cell 2
  have x13 := hx.cell 3
  have x14 := hx.cell 4
  have x15 := hx.cell 5
  have x16 := hx.cell 6
  simp only [shFin, shp, fnV, if_true, if_false, List.getElem?_toArray, List.getElem?_cons_zero, List.getElem?_cons_succ, Nat.reduceEqDiff] at x10 x11 x12 x13 x14 x15 x16
  clear hx
  obtain ⟨u1, hr1, hT1, hf1⟩ := HT.out.put Tryz.underlying3 Tryz.underlying129 (by unfold maxLen; omega) 2 (by unfold In64; omega) (.agg (shFin 1))
  simp only [shFin, shp, fnV, if_true, if_false, Nat.reduceEqDiff] at hr1
  have HT' := Lib.hid hT1
  have HS' := Lib.hid (HS.out.fr hf1 (fun j hj h => HN.out j hj h))
  have HM' : Hid (Fr No w u1) := HM.out.trans' hf1 (fun i hi hlt => by have : i = w10.heap.size := hi; have := HZ.out; omega)
  clear HT HS HM hT1 hf1
  have HT := HT'
  have HS := HS'
  have HM := HM'
  clear HT' HS' HM'
  have hx := HS.out 2 (by omega)
  have x20 := hx.cell 0
  have x21 := hx.cell 1
  have x22 := hx.cell 2
  have x23 := hx.cell 3
  have x24 := hx.cell 4
  have x25 := hx.cell 5
  have x26 := hx.cell 6
  simp only [shFin, shp, fnV, if_true, if_false, List.getElem?_toArray, List.getElem?_cons_zero, List.getElem?_cons_succ, Nat.reduceEqDiff] at x20 x21 x22 x23 x24 x25 x26
  clear hx
  obtain ⟨u2, hr2, hT2, hf2⟩ := HT.out.put Tryz.underlying3 Tryz.underlying129 (by unfold maxLen; omega) 3 (by unfold In64; omega) (.agg (shFin 2))
  simp only [shFin, shp, fnV, if_true, if_false, Nat.reduceEqDiff] at hr2
  have HT' := Lib.hid hT2
  have HS' := Lib.hid (HS.out.fr hf2 (fun j hj h => HN.out j hj h))
  have HM' : Hid (Fr No w u2) := HM.out.trans' hf2 (fun i hi hlt => by have : i = w10.heap.size := hi; have := HZ.out; omega)
  clear HT HS HM hT2 hf2
  have HT := HT'
  have HS := HS'
  have HM := HM'
  clear HT' HS' HM'
  have hx := HS.out 3 (by omega)
  have x30 := hx.cell 0
  have x31 := hx.cell 1
  have x32 := hx.cell 2
  have x33 := hx.cell 3
  have x34 := hx.cell 4
  have x35 := hx.cell 5
  have x36 := hx.cell 6
  simp only [shFin, shp, fnV, if_true, if_false, List.getElem?_toArray, List.getElem?_cons_zero, List.getElem?_cons_succ, Nat.reduceEqDiff] at x30 x31 x32 x33 x34 x35 x36
  clear hx
  obtain ⟨u3, hr3, hT3, hf3⟩ := HT.out.put Tryz.underlying3 Tryz.underlying129 (by unfold maxLen; omega) 4 (by unfold In64; omega) (.agg (shFin 3))
  simp only [shFin, shp, fnV, if_true, if_false, Nat.reduceEqDiff] at hr3
  have HT' := Lib.hid hT3
  have HS' := Lib.hid (HS.out.fr hf3 (fun j hj h => HN.out j hj h))
  have HM' : Hid (Fr No w u3) := HM.out.trans' hf3 (fun i hi hlt => by have : i = w10.heap.size := hi; have := HZ.out; omega)
  clear HT HS HM hT3 hf3
  have HT := HT'
  have HS := HS'
  have HM := HM'
  clear HT' HS' HM'
  have hx := HS.out 4 (by omega)
  have x40 := hx.cell 0
  have x41 := hx.cell 1
  have x42 := hx.cell 2
  have x43 := hx.cell 3
  have x44 := hx.cell 4
  have x45 := hx.cell 5
  have x46 := hx.cell 6
  simp only [shFin, shp, fnV, if_true, if_false, List.getElem?_toArray, List.getElem?_cons_zero, List.getElem?_cons_succ, Nat.reduceEqDiff] at x40 x41 x42 x43 x44 x45 x46
  clear hx
  obtain ⟨u4, hr4, hT4, hf4⟩ := HT.out.put Tryz.underlying3 Tryz.underlying129 (by unfold maxLen; omega) 5 (by unfold In64; omega) (.agg (shFin 4))
  simp only [shFin, shp, fnV, if_true, if_false, Nat.reduceEqDiff] at hr4
  have HT' := Lib.hid hT4
  have HS' := Lib.hid (HS.out.fr hf4 (fun j hj h => HN.out j hj h))
  have HM' : Hid (Fr No w u4) := HM.out.trans' hf4 (fun i hi hlt => by have : i = w10.heap.size := hi; have := HZ.out; omega)
  clear HT HS HM hT4 hf4
  have HT := HT'
  have HS := HS'
  have HM := HM'
  clear HT' HS' HM'
  have hx := HS.out 5 (by omega)
  have x50 := hx.cell 0
  have x51 := hx.cell 1
  have x52 := hx.cell 2
  have x53 := hx.cell 3
  have x54 := hx.cell 4
  have x55 := hx.cell 5
  have x56 := hx.cell 6
  simp only [shFin, shp, fnV, if_true, if_false, List.getElem?_toArray, List.getElem?_cons_zero, List.getElem?_cons_succ, Nat.reduceEqDiff] at x50 x51 x52 x53 x54 x55 x56
  clear hx
  obtain ⟨u5, hr5, hT5, hf5⟩ := HT.out.put Tryz.underlying3 Tryz.underlying129 (by unfold maxLen; omega) 6 (by unfold In64; omega) (.agg (shFin 5))
  simp only [shFin, shp, fnV, if_true, if_false, Nat.reduceEqDiff] at hr5
  have HT' := Lib.hid hT5
  have HS' := Lib.hid (HS.out.fr hf5 (fun j hj h => HN.out j hj h))
  have HM' : Hid (Fr No w u5) := HM.out.trans' hf5 (fun i hi hlt => by have : i = w10.heap.size := hi; have := HZ.out; omega)
  clear HT HS HM hT5 hf5
  have HT := HT'
  have HS := HS'
  have HM := HM'
  clear HT' HS' HM'
  have hx := HS.out 6 (by omega)
  have x60 := hx.cell 0
  have x61 := hx.cell 1
  have x62 := hx.cell 2
  have x63 := hx.cell 3
  have x64 := hx.cell 4
  have x65 := hx.cell 5
  have x66 := hx.cell 6
  simp only [shFin, shp, fnV, if_true, if_false, List.getElem?_toArray, List.getElem?_cons_zero, List.getElem?_cons_succ, Nat.reduceEqDiff] at x60 x61 x62 x63 x64 x65 x66
  clear hx
  obtain ⟨u6, hr6, hT6, hf6⟩ := HT.out.put Tryz.underlying3 Tryz.underlying129 (by unfold maxLen; omega) 7 (by unfold In64; omega) (.agg (shFin 6))
  simp only [shFin, shp, fnV, if_true, if_false, Nat.reduceEqDiff] at hr6
  have HT' := Lib.hid hT6
  have HS' := Lib.hid (HS.out.fr hf6 (fun j hj h => HN.out j hj h))
  have HM' : Hid (Fr No w u6) := HM.out.trans' hf6 (fun i hi hlt => by have : i = w10.heap.size := hi; have := HZ.out; omega)
  clear HT HS HM hT6 hf6
  have HT := HT'
  have HS := HS'
  have HM := HM'
  clear HT' HS' HM'
  clear HS HN HZ HI HG
  go_wp2
  go_ret
  exact ⟨_, rfl, HT.out, HM.out⟩
end Go.Proofs.YtlanhclgbkhdlaaGreat

namespace Go.Proofs.YtlanhclgbkhdlaaGreat
open Go.RowKit Go.My Go.Maps
set_option linter.unusedSimpArgs false
set_option linter.unusedVariables false
attribute [local go_sem ↓] Go.wp_at_zero Go.wp_at_succ

/-- answers b, and changes nothing -/
def AnsB (f : FuncId) (args : Array Value) (b : Bool) : Prop := ∀ W, Calls Tryz.prog f args W fun e w' => e = .returned (.bool b) ∧ Fr No W w'
theorem ans1 (s : ByteArray) : AnsB 83 #[.string s] s.data.toList.isEmpty := fun W => by
  go_enter Tryz.func83, Tryz.ntmps83
  go_wp2
  go_ret
  refine ⟨?_, Fr.refl _ _⟩
  rw [← ByteArray.toList_eq]
  rfl
theorem ans7 (s : ByteArray) : AnsB 89 #[.string s] s.data.toList.isEmpty := fun W => by
  go_enter Tryz.func89, Tryz.ntmps89
  go_wp2
  go_ret
  refine ⟨?_, Fr.refl _ _⟩
  rw [← ByteArray.toList_eq]
  rfl
theorem ans2 (s t : ByteArray) : AnsB 84 #[.string s, .string t] s.data.toList.isEmpty := fun W => by
  go_enter Tryz.func84, Tryz.ntmps84
  go_wp2
  go_ret
  refine ⟨?_, Fr.refl _ _⟩
  rw [← ByteArray.toList_eq]
  rfl
theorem ans3 (n : Int) : AnsB 85 #[.int .i64 n] (n == 0) := fun W => by
  go_enter Tryz.func85, Tryz.ntmps85
  go_wp2
  go_ret
  exact ⟨rfl, Fr.refl _ _⟩
theorem ans5 (n : Int) : AnsB 87 #[.int .i64 n] (n == 0) := fun W => by
  go_enter Tryz.func87, Tryz.ntmps87
  go_wp2
  go_ret
  exact ⟨rfl, Fr.refl _ _⟩
theorem ans6 (n : Int) : AnsB 88 #[.int .i64 n] (n == 0) := fun W => by
  go_enter Tryz.func88, Tryz.ntmps88
  go_wp2
  go_ret
  exact ⟨rfl, Fr.refl _ _⟩
theorem ans8 (n : Int) : AnsB 90 #[.int .i64 n] (decide (0 ≤ n)) := fun W => by
  go_enter Tryz.func90, Tryz.ntmps90
  go_wp2
  go_ret
  exact ⟨rfl, Fr.refl _ _⟩
theorem ans4 (A : Option Addr) (n c : Nat) : AnsB 86 #[.slice A n c] (n == 0) := fun W => by
  go_enter Tryz.func86, Tryz.ntmps86
  go_wp2
  go_ret
  refine ⟨?_, Fr.refl _ _⟩
  cases n <;> simp <;> omega
theorem ansSum (n : Int) : AnsB 94 #[.int .i64 n] (decide (1 ≤ n)) := fun W => by
  go_enter Tryz.func94, Tryz.ntmps94
  go_wp2
  go_ret
  exact ⟨rfl, Fr.refl _ _⟩
theorem ansPeriod (n : Int) : AnsB 92 #[.int .i64 n] (decide (1 ≤ n) && decide (n ≤ 1000)) := fun W => by
  by_cases h : 1 ≤ n
  · go_enter Tryz.func92, Tryz.ntmps92
    go_wp2
    go_ret
    exact ⟨by simp [h], Fr.refl _ _⟩
  · go_enter Tryz.func92, Tryz.ntmps92
    go_wp2
    go_ret
    exact ⟨by rw [show decide (1 ≤ n) = false from decide_eq_false (by omega)]; rfl, Fr.refl _ _⟩
theorem ansHold (n : Int) : AnsB 96 #[.int .i64 n] (decide (1 ≤ n) && decide (n ≤ 9999)) := fun W => by
  by_cases h : 1 ≤ n
  · go_enter Tryz.func96, Tryz.ntmps96
    go_wp2
    go_ret
    exact ⟨by simp [h], Fr.refl _ _⟩
  · go_enter Tryz.func96, Tryz.ntmps96
    go_wp2
    go_ret
    exact ⟨by rw [show decide (1 ≤ n) = false from decide_eq_false (by omega)]; rfl, Fr.refl _ _⟩
theorem ansNote (s : ByteArray) : AnsB 93 #[.string s] (decide (s.data.toList.length ≤ 20)) := fun W => by
  go_enter Tryz.func93, Tryz.ntmps93
  go_wp2
  go_ret
  refine ⟨?_, Fr.refl _ _⟩
  obtain ⟨⟨l⟩⟩ := s
  simp [ByteArray.size]
  omega
theorem ansName (s : ByteArray) (hs : s.size ≤ maxLen) : AnsB 30 #[.string s] (nameB s.data.toList) := fun W => (name_any s W hs).mono fun e w' h => ⟨h.1, Fr.of_below h.2 _⟩
theorem ansPeer (s t : ByteArray) (hs : s.size ≤ maxLen) : AnsB 95 #[.string s, .string t] (nameB s.data.toList && !(s.data.toList == t.data.toList)) := fun W => by
  have HN := Lib.hid (ansName s hs)
  cases hn : nameB s.data.toList
  · rw [hn] at HN
    clear hn
    go_enter Tryz.func95, Tryz.ntmps95
    go_wp2_with fail
    refine (HN.out _).mono ?_
    rintro e w1 ⟨rfl, hf⟩
    go_wp2
    go_ret
    exact ⟨rfl, hf⟩
  · rw [hn] at HN
    clear hn
    go_enter Tryz.func95, Tryz.ntmps95
    go_wp2_with fail
    refine (HN.out _).mono ?_
    rintro e w1 ⟨rfl, hf⟩
    go_wp2
    go_ret
    refine ⟨?_, hf⟩
    rw [← ByteArray.toList_eq, ← ByteArray.toList_eq]
    rfl
/-- may an Id be? -/
def idB (c s : Int) : Bool := decide (0 ≤ c) && (decide (c ≤ 9) && (decide (1 ≤ s) && decide (s ≤ 999)))
theorem ansId (c s : Int) : AnsB 60 #[.agg #[.int .i64 c, .int .i64 s]] (idB c s) := fun W => by
  have hf : Fr No W (W.alloc (.cells #[.int .i64 c, .int .i64 s] 28)) := (Fr.refl _ _).alloc _
  by_cases h1 : 0 ≤ c
  · by_cases h2 : c ≤ 9
    · by_cases h3 : 1 ≤ s
      · go_enter Tryz.func60, Tryz.ntmps60
        go_wp2
        go_ret
        exact ⟨by simp [idB, h1, h2, h3], hf⟩
      · go_enter Tryz.func60, Tryz.ntmps60
        go_wp2
        go_ret
        exact ⟨by unfold idB; rw [decide_eq_true h1, decide_eq_true h2, show decide (1 ≤ s) = false from decide_eq_false (by omega)]; rfl, hf⟩
    · go_enter Tryz.func60, Tryz.ntmps60
      go_wp2
      go_ret
      exact ⟨by unfold idB; rw [decide_eq_true h1, show decide (c ≤ 9) = false from decide_eq_false (by omega)]; rfl, hf⟩
  · go_enter Tryz.func60, Tryz.ntmps60
    go_wp2
    go_ret
    exact ⟨by unfold idB; rw [show decide (0 ≤ c) = false from decide_eq_false (by omega)]; rfl, hf⟩
end Go.Proofs.YtlanhclgbkhdlaaGreat

namespace Go.Proofs.YtlanhclgbkhdlaaGreat
open Go.RowKit Go.My Go.Maps
set_option linter.unusedSimpArgs false
set_option linter.unusedVariables false
attribute [local go_sem ↓] Go.wp_at_zero Go.wp_at_succ

/-- the first leg for which q holds -/
def idxL (q : Lg → Bool) (L : List Lg) : Int := match L.findIdx? q with | some i => (i : Int) | none => -1
def IxRel (w : World) (q : Lg → Bool) (L : List Lg) (iv : Value) (wr : World) : Prop := ∃ k : Nat, k ≤ L.length ∧ iv = .int .i64 k ∧ (∀ g ∈ L.take k, q g = false) ∧ Fr No w wr
theorem index_any (F : Nat → Prop) (A : Option Addr) (c : Nat) (cells : List Value) (L : List Lg) (f : FuncId) (bs : Array Value) (q : Lg → Bool) (w : World) (hr : Rd w F 2 A L.length cells) (hE : Each RdLg 2 cells L) (hL : L.length ≤ 1000000)
    (hf : ∀ args W, (callFunc f args).run Tryz.prog W = .ok (.enter f args) W)
    (hc : ∀ W, Fr No w W → ∀ g ∈ L, Calls Tryz.prog f (#[.agg #[.string g.acct, .int .i64 g.sum]] ++ bs) W fun e w' => e = .returned (.bool (q g)) ∧ Fr No W w') :
    Calls Tryz.prog 121 #[.slice A L.length c, .func (.func f) #[] bs] w fun e w' => e = .returned (.int .i64 (idxL q L)) ∧ Fr No w w' := by
  have HR := Lib.hid hr
  have HE := Lib.hid hE
  have HC := Lib.hid hc
  clear hr hE hc
  go_enter Tryz.func121, Tryz.ntmps121
  go_wp2
  go_loopw [8] (fun iv wr => IxRel w q L iv wr) (fun iv _ => L.length - (intOf iv).toNat)
  case atStart => exact ⟨0, Nat.zero_le _, rfl, fun g hg => by simp at hg, Fr.refl _ _⟩
  case round =>
    obtain ⟨k, hk, rfl, hall, hfr⟩ := hrel
    by_cases hlt : k < L.length
    · obtain ⟨ad, rfl, _, hok, q0, q1⟩ := lg_at (HR.out.fr (by omega) hfr fun _ _ _ h => h) HE.out k hlt hlt
      have HCK := Lib.hid fun W hW => HC.out W hW L[k] (List.getElem_mem hlt)
      have HFR := Lib.hid hfr
      have hT : q L[k] = true → idxL q L = (k : Int) := fun h => by
        unfold idxL
        rw [List.findIdx?_eq_some_iff_getElem.2 ⟨hlt, h, fun j hj => by
          have := hall L[j] (List.mem_take_iff_getElem.2 ⟨j, by omega, rfl⟩)
          simp [this]⟩]
      have hN : q L[k] = false → ∀ g ∈ L.take (k + 1), q g = false := fun h g hg => by
        rw [List.take_succ_eq_append_getElem hlt, List.mem_append] at hg
        rcases hg with hg | hg
        · exact hall g hg
        · rw [List.mem_singleton.1 hg]; exact h
      have HT := Lib.hid hT
      have HN := Lib.hid hN
      generalize L[k] = g at *
      obtain ⟨nm, sm⟩ := g
      simp only at q0 q1 HCK
      clear hall hfr hok hT hN
      cases hb : q ⟨nm, sm⟩
      · rw [hb] at HCK
        have HN2 := Lib.hid (HN.out hb)
        clear HT HN hb
        go_wp2_with fail
        refine (HCK.out _ HFR.out).mono ?_
        rintro e w1 ⟨rfl, hf1⟩
        clear q0 q1
        go_wp2
        go_roundw
        case rel => exact ⟨k + 1, by omega, by go_num, HN2.out, HFR.out.trans hf1⟩
        case measure => simp [intOf]; omega
      · rw [hb] at HCK
        have HT2 := Lib.hid (HT.out hb)
        clear HT HN hb
        go_wp2_with fail
        refine (HCK.out _ HFR.out).mono ?_
        rintro e w1 ⟨rfl, hf1⟩
        clear q0 q1
        go_wp2
        go_ret
        exact ⟨by rw [HT2.out]; rfl, HFR.out.trans hf1⟩
    · obtain rfl : k = L.length := by omega
      have HF : Hid (idxL q L = -1) := by
        show _ = _
        unfold idxL
        rw [List.take_length] at hall
        rw [List.findIdx?_eq_none_iff.2 hall]
      go_wp2
      go_ret
      exact ⟨by rw [HF.out]; rfl, hfr⟩
theorem contains_any (F : Nat → Prop) (A : Option Addr) (c : Nat) (cells : List Value) (L : List Lg) (f : FuncId) (bs : Array Value) (q : Lg → Bool) (w : World) (hr : Rd w F 2 A L.length cells) (hE : Each RdLg 2 cells L) (hL : L.length ≤ 1000000)
    (hf : ∀ args W, (callFunc f args).run Tryz.prog W = .ok (.enter f args) W)
    (hc : ∀ W, Fr No w W → ∀ g ∈ L, Calls Tryz.prog f (#[.agg #[.string g.acct, .int .i64 g.sum]] ++ bs) W fun e w' => e = .returned (.bool (q g)) ∧ Fr No W w') :
    Calls Tryz.prog 114 #[.slice A L.length c, .func (.func f) #[] bs] w fun e w' => e = .returned (.bool (L.any q)) ∧ Fr No w w' := by
  have HX := Lib.hid (index_any F A c cells L f bs q w hr hE hL hf hc)
  have HA : Hid (decide (0 ≤ idxL q L) = L.any q) := by
    show _ = _
    unfold idxL
    cases h : L.findIdx? q with
    | none =>
      rw [List.findIdx?_eq_none_iff] at h
      simp only
      rw [List.any_eq_false.2 (fun x hx => by rw [h x hx]; decide)]
      rfl
    | some i =>
      obtain ⟨hlt, hi, _⟩ := List.findIdx?_eq_some_iff_getElem.1 h
      simp only
      rw [List.any_eq_true.2 ⟨L[i], List.getElem_mem hlt, hi⟩]
      exact decide_eq_true (by omega)
  clear hr hE hf hc
  go_enter Tryz.func114, Tryz.ntmps114
  go_wp2_with fail
  refine HX.out.mono ?_
  rintro e w1 ⟨rfl, hf1⟩
  go_wp2
  go_ret
  exact ⟨by rw [← HA.out]; rfl, hf1⟩
theorem same_any (s a : ByteArray) (n : Int) (g : Nat) (w : World) (hg : w.cell? ⟨g, 0, none⟩ = some (.string a)) : Calls Tryz.prog 113 #[.agg #[.string s, .int .i64 n], .pointer (some ⟨g, 0, none⟩)] w fun e w' => e = .returned (.bool (s.data.toList == a.data.toList)) ∧ Fr No w w' := by
  have hgl := World.block_lt_of_cell? w _ hg
  simp only at hgl
  go_enter Tryz.func113, Tryz.ntmps113
  go_wp2
  go_ret
  refine ⟨?_, (Fr.refl _ _).alloc _⟩
  rw [← ByteArray.toList_eq, ← ByteArray.toList_eq]
  rfl
end Go.Proofs.YtlanhclgbkhdlaaGreat

namespace Go.Proofs.YtlanhclgbkhdlaaGreat
open Go.RowKit Go.My Go.Maps
set_option linter.unusedSimpArgs false
set_option linter.unusedVariables false
attribute [local go_sem ↓] Go.wp_at_zero Go.wp_at_succ

def RlRel (w : World) (L : List Lg) (iv : Value) (wr : World) : Prop := ∃ k : Nat, k ≤ L.length ∧ iv = .int .i64 k ∧ (L.take k).all okLg = true ∧ ((L.take k).map Lg.nm).Nodup ∧ Fr No w wr
theorem rightB_dup {L : List Lg} (h : ¬ (L.map Lg.nm).Nodup) : rightB L = false := by
  unfold rightB
  rw [decide_eq_false h]
  simp
theorem rightB_all {L : List Lg} (h : 2 ≤ L.length ∧ L.length ≤ 6) (ha : L.all okLg = true) (hd : (L.map Lg.nm).Nodup) : rightB L = true := by
  unfold rightB
  have e : L.all (fun g => nameB g.nm && decide (g.sum ≠ 0)) = true := ha
  rw [e, decide_eq_true h.1, decide_eq_true h.2, decide_eq_true hd]
  rfl
theorem any_nm (L : List Lg) (k : Nat) (hk : k < L.length) : ((L.take k).any fun g => g.acct.data.toList == L[k].acct.data.toList) = decide (L[k].nm ∈ (L.take k).map Lg.nm) := by
  rw [Bool.eq_iff_iff, List.any_eq_true, decide_eq_true_eq, List.mem_map]
  constructor
  · rintro ⟨g, hg, he⟩
    exact ⟨g, hg, by simpa [Lg.nm] using he⟩
  · rintro ⟨g, hg, he⟩
    exact ⟨g, hg, by simpa [Lg.nm] using he⟩
theorem each_take {X : Type} {R : List Value → X → Prop} {size : Nat} {cells : List Value} {T : List X} (hE : Each R size cells T) (k : Nat) (hk : k ≤ T.length) : Each R size (cells.take (k * size)) (T.take k) := by
  refine ⟨?_, fun i x hx => ?_⟩
  · have := hE.1
    rw [List.length_take, List.length_take, this]
    rw [Nat.min_eq_left (Nat.mul_le_mul_right _ hk), Nat.min_eq_left hk]
  · have hlt : i < k := by
      have := (List.getElem?_eq_some_iff.1 hx).1
      rw [List.length_take] at this
      omega
    rw [List.getElem?_take, if_pos hlt] at hx
    have h := hE.2 i x hx
    rw [List.drop_take, List.take_take, Nat.min_eq_left]
    · exact h
    · rw [← Nat.sub_mul]
      have : 1 ≤ k - i := by omega
      calc size = 1 * size := by omega
        _ ≤ (k - i) * size := Nat.mul_le_mul_right _ this

set_option maxRecDepth 100000 in
set_option maxHeartbeats 4000000 in
theorem rightLegs_any (F : Nat → Prop) (A : Option Addr) (c : Nat) (cells : List Value) (L : List Lg) (w : World) (hr : Rd w F 2 A L.length cells) (hE : Each RdLg 2 cells L) (hlc : L.length ≤ c) (hcm : c ≤ maxLen) :
    Calls Tryz.prog 91 #[.slice A L.length c] w fun e w' => e = .returned (.bool (rightB L)) ∧ Fr No w w' := by
  have HR := Lib.hid hr
  have HE := Lib.hid hE
  have HLC := Lib.hid hlc
  clear hr hE hlc
  by_cases h2 : L.length < 2
  · have HB : Hid (rightB L = false) := rightB_len (by omega)
    have h2' : (L.length : Int) < 2 := by omega
    clear h2
    go_enter Tryz.func91, Tryz.ntmps91
    go_wp2
    go_ret
    exact ⟨by rw [HB.out]; rfl, Fr.refl _ _⟩
  by_cases h6 : 6 < L.length
  · have HB : Hid (rightB L = false) := rightB_len (by omega)
    have h2' : ¬ (L.length : Int) < 2 := by omega
    have h6' : (6 : Int) < (L.length : Int) := by omega
    clear h2 h6
    go_enter Tryz.func91, Tryz.ntmps91
    go_wp2
    go_ret
    exact ⟨by rw [HB.out]; rfl, Fr.refl _ _⟩
  have HLN : Hid (2 ≤ L.length ∧ L.length ≤ 6) := ⟨by omega, by omega⟩
  have h2' : ¬ (L.length : Int) < 2 := by omega
  have h6' : ¬ (6 : Int) < (L.length : Int) := by omega
  clear h2 h6
  go_enter Tryz.func91, Tryz.ntmps91
  go_wp2
  clear h2' h6'
  go_loopw [16] (fun iv wr => RlRel w L iv wr) (fun iv _ => L.length - (intOf iv).toNat)
  case atStart => exact ⟨0, Nat.zero_le _, rfl, rfl, by simp, Fr.refl _ _⟩
  case round =>
    obtain ⟨k, hk, rfl, hall, hnd, hfr⟩ := hrel
    by_cases hlt : k < L.length
    · obtain ⟨ad, rfl, _, hok, q0, q1⟩ := lg_at (HR.out.fr (by omega) hfr fun _ _ _ h => h) HE.out k hlt hlt
      have HBAD : Hid (okLg L[k] = false → rightB L = false) := rightB_bad hlt
      have HNX : Hid (okLg L[k] = true → (L.take (k + 1)).all okLg = true) := fun h => by
        rw [List.take_succ_eq_append_getElem hlt, List.all_append, hall]
        simp [h]
      have HDUP : Hid (L[k].nm ∈ (L.take k).map Lg.nm → rightB L = false) := fun h => rightB_dup fun hd => by
        obtain ⟨g, hg, he⟩ := List.mem_map.1 h
        obtain ⟨j, hj, rfl⟩ := List.mem_take_iff_getElem.1 hg
        have h3 := List.pairwise_iff_getElem.1 hd j k (by simp; omega) (by simpa using hlt) (by omega)
        simp only [List.getElem_map] at h3
        exact h3 he
      have HND : Hid (L[k].nm ∉ (L.take k).map Lg.nm → ((L.take (k + 1)).map Lg.nm).Nodup) := fun h => by
        rw [List.take_succ_eq_append_getElem hlt, List.map_append, List.nodup_append]
        refine ⟨hnd, by simp, fun x hx y hy => ?_⟩
        simp only [List.map_cons, List.map_nil, List.mem_singleton] at hy
        rintro rfl
        rw [hy] at hx
        exact h hx
      have HAN := Lib.hid (any_nm L k hlt)
      have hlk : (L.take k).length = k := by rw [List.length_take]; omega
      have HCT : Hid (∀ W g, Fr No wr W → W.cell? ⟨g, 0, none⟩ = some (.string L[k].acct) → Calls Tryz.prog 114 #[.slice (some ad) k c, .func (.func 113) #[] #[.pointer (some ⟨g, 0, none⟩)]] W fun e w' => e = .returned (.bool ((L.take k).any fun x => x.acct.data.toList == L[k].acct.data.toList)) ∧ Fr No W w') := fun W g hW hg => by
        have h := contains_any F (some ad) c (cells.take (k * 2)) (L.take k) 113 #[.pointer (some ⟨g, 0, none⟩)] (fun x => x.acct.data.toList == L[k].acct.data.toList) W (by
          rw [hlk]
          exact ((HR.out.fr (by omega) hfr fun _ _ _ h => h).fr (by omega) hW fun _ _ _ h => h).take (by omega)) (each_take HE.out k hk) (by rw [hlk]; have := HLN.out; omega) (enters_of Tryz.func113 (by kernel_rfl) rfl) (fun W' hW' x hx => same_any x.acct L[k].acct x.sum g W' (hW'.cell_some hg (fun h => h)))
        rw [hlk] at h
        exact h
      generalize L[k] = g at *
      obtain ⟨nm, sm⟩ := g
      unfold Lg.ok at hok
      simp only at q0 q1 hok HCT
      rw [HAN.out] at HCT
      have HNM := Lib.hid (ansName nm hok.1)
      have hbx := Blk.new wr 92 #[.string nm, .int .i64 sm]
      have HBX := Lib.hid hbx
      have HFR := Lib.hid hfr
      clear hall hnd hfr hok hbx HAN hlk
      go_wp2_with fail
      refine (HNM.out _).mono ?_
      rintro e w3 ⟨rfl, hf3⟩
      have hbx3 := HBX.out.fr hf3 (fun h => h)
      have x0 := hbx3.cell 0
      have x1 := hbx3.cell 1
      simp only [List.getElem?_toArray, List.getElem?_cons_zero, List.getElem?_cons_succ] at x0 x1
      have hf03 : Fr No wr w3 := ((Fr.refl No wr).alloc _).trans hf3
      have HF3 := Lib.hid (HFR.out.trans hf03)
      have HC3 := Lib.hid (HCT.out w3 wr.heap.size hf03 x0)
      have hok1 : okLg ⟨nm, sm⟩ = (nameB nm.data.toList && decide (sm ≠ 0)) := rfl
      clear hbx3 hf3 hf03 HNM HCT
      cases hn : nameB nm.data.toList
      · have HB := Lib.hid (HBAD.out (by rw [hok1, hn]; rfl))
        clear hn hok1 HBAD HNX HDUP HND HC3
        go_wp2
        go_ret
        exact ⟨by rw [HB.out]; rfl, HF3.out⟩
      · by_cases hs : sm = 0
        · have HB := Lib.hid (HBAD.out (by rw [hok1, hn, hs]; rfl))
          subst hs
          clear hn hok1 HBAD HNX HDUP HND HC3
          go_wp2
          go_ret
          exact ⟨by rw [HB.out]; rfl, HF3.out⟩
        · have HA := Lib.hid (HNX.out (by rw [hok1, hn]; simpa using hs))
          have hkc : k ≤ c := by have := HLC.out; omega
          have hk6 : k < 6 := by have := HLN.out; omega
          have hs2 : (sm == 0) = false := beq_eq_false_iff_ne.2 hs
          by_cases hm : (⟨nm, sm⟩ : Lg).nm ∈ (L.take k).map Lg.nm
          · have HB := Lib.hid (HDUP.out hm)
            rw [decide_eq_true hm] at HC3
            clear hn hok1 HBAD HNX HDUP HND hm hs
            go_wp2_with fail
            refine HC3.out.mono ?_
            rintro e w4 ⟨rfl, hf4⟩
            go_wp2
            go_ret
            exact ⟨by rw [HB.out]; rfl, HF3.out.trans hf4⟩
          · have HN := Lib.hid (HND.out hm)
            rw [decide_eq_false hm] at HC3
            clear hn hok1 HBAD HNX HDUP HND hm hs
            go_wp2_with fail
            refine HC3.out.mono ?_
            rintro e w4 ⟨rfl, hf4⟩
            go_wp2
            go_roundw
            case rel => exact ⟨k + 1, by omega, by go_num, HA.out, HN.out, HF3.out.trans hf4⟩
            case measure => simp [intOf]; omega
    · obtain rfl : k = L.length := by omega
      have HB : Hid (rightB L = true) := rightB_all HLN.out (by rw [List.take_length] at hall; exact hall) (by rw [List.take_length] at hnd; exact hnd)
      go_wp2
      go_ret
      exact ⟨by rw [HB.out]; rfl, hfr⟩
end Go.Proofs.YtlanhclgbkhdlaaGreat

namespace Go.Proofs.YtlanhclgbkhdlaaGreat
open Go.RowKit Go.My Go.Maps
set_option linter.unusedSimpArgs false
set_option linter.unusedVariables false
attribute [local go_sem ↓] Go.wp_at_zero Go.wp_at_succ

/-- an order -/
structure Od where
  cl : Int
  sq : Int
  kd : Int
  acct : ByteArray
  peer : ByteArray
  sum : Int
  legs : List Lg
  per : Int
  hold : Int
  note : ByteArray
def Od.an (o : Od) : List UInt8 := o.acct.data.toList
def Od.pn (o : Od) : List UInt8 := o.peer.data.toList
def Od.ok (o : Od) : Prop := In64 o.cl ∧ In64 o.sq ∧ In64 o.kd ∧ o.acct.size ≤ maxLen ∧ o.peer.size ≤ maxLen ∧ In64 o.sum ∧ In64 o.per ∧ In64 o.hold ∧ o.note.size ≤ maxLen
/-- its cells, the legs' slice given -/
def Od.cs (o : Od) (v : Value) : List Value := [.int .i64 o.cl, .int .i64 o.sq, .int .i64 o.kd, .string o.acct, .string o.peer, .int .i64 o.sum, v, .int .i64 o.per, .int .i64 o.hold, .string o.note]
/-- legs in memory -/
def LgS (w : World) (F : Nat → Prop) (v : Value) (L : List Lg) : Prop := ∃ A c cells, v = .slice A L.length c ∧ Rd w F 2 A L.length cells ∧ Each RdLg 2 cells L ∧ L.length ≤ c ∧ c ≤ maxLen
theorem LgS.no {w w' : World} {F : Nat → Prop} {v : Value} {L : List Lg} (h : LgS w F v L) (hf : Fr No w w') : LgS w' F v L := by
  obtain ⟨A, c, cells, rfl, hr, r⟩ := h
  exact ⟨A, c, cells, rfl, hr.fr (by omega) hf (fun _ _ _ h => h), r⟩

/-! ### which orders may be -/
def acctB (o : Od) : Bool := if o.kd = 2 ∨ o.kd = 6 then o.an.isEmpty else nameB o.an
def peerB (o : Od) : Bool := if o.kd = 4 then nameB o.pn && !(o.pn == o.an) else o.pn.isEmpty
def sumB (o : Od) : Bool := if o.kd = 1 then decide (0 ≤ o.sum) else if o.kd = 3 ∨ o.kd = 4 then decide (1 ≤ o.sum) else o.sum == 0
def legsB (o : Od) : Bool := if o.kd = 2 then rightB o.legs else o.legs.length == 0
def perB (o : Od) : Bool := if o.kd = 2 ∨ o.kd = 4 ∨ o.kd = 6 then decide (1 ≤ o.per) && decide (o.per ≤ 1000) else o.per == 0
def holdB (o : Od) : Bool := if o.kd = 4 ∨ o.kd = 5 then decide (1 ≤ o.hold) && decide (o.hold ≤ 9999) else o.hold == 0
def noteB (o : Od) : Bool := if o.kd = 2 then decide (o.note.data.toList.length ≤ 20) else o.note.data.toList.isEmpty
def rightO (o : Od) : Bool := decide (1 ≤ o.kd) && (decide (o.kd ≤ 7) && (idB o.cl o.sq && (acctB o && (peerB o && (sumB o && (legsB o && (perB o && (holdB o && noteB o))))))))

theorem zeroS (w : World) : (zeroValue 127).run Tryz.prog w = .ok (.agg zs7) w := by kernel_rfl
theorem shapeF_none {k : Int} (h : ¬ (1 ≤ k ∧ k ≤ 7)) : shapeF k = none := by
  unfold shapeF
  rw [if_neg (by omega), if_neg (by omega), if_neg (by omega), if_neg (by omega), if_neg (by omega), if_neg (by omega), if_neg (by omega)]
end Go.Proofs.YtlanhclgbkhdlaaGreat

namespace Go.Proofs.YtlanhclgbkhdlaaGreat
open Go.RowKit Go.My Go.Maps
set_option linter.unusedSimpArgs false
set_option linter.unusedVariables false
attribute [local go_sem ↓] Go.wp_at_zero Go.wp_at_succ

noncomputable def rg1s : { c : Code // regOf 1 Tryz.f47 = c } := ⟨_, by conv => lhs; whnf⟩
noncomputable def rg1 : Code := rg1s.1
def rgF (v0 v3 v4 v5 v6 v7 v8 v9 v10 v11 : Value) (b : Nat) : Array Value :=
  (v0 :: .pointer (some ⟨b, 0, none⟩) :: .bool false :: v3 :: v4 :: v5 :: v6 :: v7 :: v8 :: v9 :: v10 :: v11 :: undef :: undef :: undef :: undef :: undef :: undef :: undef :: undef :: undef :: undef :: undef :: undef :: undef :: undef :: undef :: undef :: undef :: undef :: undef :: undef :: undef :: undef :: undef :: undef :: undef :: undef :: undef :: undef :: undef :: undef :: undef :: undef :: undef :: undef :: undef :: undef :: undef :: undef :: undef :: undef :: undef :: undef :: undef :: undef :: undef :: undef :: undef :: undef :: undef :: undef :: undef :: undef :: undef :: undef :: undef :: undef :: undef :: []).toArray
set_option maxRecDepth 100000 in
set_option maxHeartbeats 4000000 in
theorem rg1_some {w : World} {b : Nat} {v0 : Value} {Q : Exit → Act → World → Prop} {c0 c1 c2 c3 c4 c5 c6 : FuncId} {o : Od} {v : Value} (hkd : In64 o.kd) (hb : Blk w b 31 (o.cs v).toArray) (hk : shapeF o.kd = some (.agg (shp c0 c1 c2 c3 c4 c5 c6)))
    (hQ : ∀ (p : Nat) (v5 v6 v7 v8 v9 v10 v11 : Value) w', Blk w' p 127 (shp c0 c1 c2 c3 c4 c5 c6) → Fr No w w' → Q .normal ⟨rgF v0 (.pointer (some ⟨p, 0, none⟩)) (.bool true) v5 v6 v7 v8 v9 v10 v11 b, []⟩ w') :
    Code.wp Tryz.prog rg1 Q ⟨rgF v0 undef undef undef undef undef undef undef undef undef b, []⟩ w := by
  have x2 := hb.cell 2
  simp only [Od.cs, List.getElem?_toArray, List.getElem?_cons_zero, List.getElem?_cons_succ] at x2
  have HX : Hid (∀ W, Fr No w W → Fr No w W ∧ W.cell? ⟨b, 2, none⟩ = some (.int .i64 o.kd)) := fun W hW => ⟨hW, hW.cell_some x2 (fun h => h)⟩
  have HSH := Lib.hid (fun W => shapes_any W)
  have hw1 : Fr No w w.drew := (Fr.refl No w).drew
  have HQ := Lib.hid hQ
  have HB := Lib.hid hb.lt
  have HLK : Hid (∀ m W, Tab Tryz.prog 3 W m 7 shapeF → (Instr.lookup 129 (.map (some m)) (.int .i64 o.kd) true).run Tryz.prog W = .ok (.tuple #[.agg #[.func (.func c0) #[] #[], .func (.func c1) #[] #[], .func (.func c2) #[] #[], .func (.func c3) #[] #[], .func (.func c4) #[] #[], .func (.func c5) #[] #[], .func (.func c6) #[] #[]], .bool true]) W) := fun m W h => by
    have h1 := h.look_ok Tryz.underlying3 Tryz.underlying129 (zeroS W) o.kd hkd
    rw [hk] at h1
    exact h1
  clear hb hQ x2 hk
  unfold rgF
  conv => arg 2; whnf
  refine wp_region_noPanic ?_
  have y0 := (HX.out _ hw1).2
  have y1 := fun O => (HX.out _ ((Fr.refl No w).alloc O).drew).2
  go_region_with (go_at_call 59; (with_reducible refine (HSH.out _).mono ?_); rintro e w4 ⟨m, rfl, hT, hf4⟩; have hlk := HLK.out m _ hT; have hlka := (fun O => HLK.out m _ (hT.fr ((Fr.refl No _).alloc O) (fun h => h))); have hg4 := (fun h => Fr.trans (S := No) (a := w) h hf4) (by first | exact hw1 | exact (Fr.drew (Fr.alloc (Fr.refl No w) _))); have y4 := (HX.out _ hg4).2; have y5 := (fun O => (HX.out _ (hg4.alloc O)).2); (try (have hbz : Blk w4 w.heap.size 127 zs7 := Blk.fr (w := ((w.alloc (.cells zs7 127)).drew)) (Blk.new w 127 zs7) hf4 (fun h => h); have z0 := hbz.cell 0; have z1 := hbz.cell 1; have z2 := hbz.cell 2; have z3 := hbz.cell 3; have z4 := hbz.cell 4; have z5 := hbz.cell 5; have z6 := hbz.cell 6; have fz := hbz.frozen; simp only [zs7, List.getElem?_toArray, List.getElem?_cons_zero, List.getElem?_cons_succ] at z0 z1 z2 z3 z4 z5 z6)))
  all_goals
    refine HQ.out _ _ _ _ _ _ _ _ _ ?_ ?_
  all_goals
    first
      | (unfold shp fnV; with_reducible exact Blk.new w4 _ _)
      | (with_reducible exact hg4.alloc _)
      | exact ((((((hbz.set_ 0 _).set_ 1 _).set_ 2 _).set_ 3 _).set_ 4 _).set_ 5 _).set_ 6 _
      | exact ((((((hg4.setCell (p := ⟨w.heap.size, 0, none⟩) (fun h => absurd h (Nat.lt_irrefl _)) _).setCell (p := ⟨w.heap.size, 1, none⟩) (fun h => absurd h (Nat.lt_irrefl _)) _).setCell (p := ⟨w.heap.size, 2, none⟩) (fun h => absurd h (Nat.lt_irrefl _)) _).setCell (p := ⟨w.heap.size, 3, none⟩) (fun h => absurd h (Nat.lt_irrefl _)) _).setCell (p := ⟨w.heap.size, 4, none⟩) (fun h => absurd h (Nat.lt_irrefl _)) _).setCell (p := ⟨w.heap.size, 5, none⟩) (fun h => absurd h (Nat.lt_irrefl _)) _).setCell (p := ⟨w.heap.size, 6, none⟩) (fun h => absurd h (Nat.lt_irrefl _)) _
set_option maxRecDepth 100000 in
set_option maxHeartbeats 4000000 in
theorem rg1_none {w : World} {b : Nat} {v0 : Value} {Q : Exit → Act → World → Prop} {o : Od} {v : Value} (hkd : In64 o.kd) (hb : Blk w b 31 (o.cs v).toArray) (hk : shapeF o.kd = none)
    (hQ : ∀ (p : Nat) (v5 v6 v7 v8 v9 v10 v11 : Value) w', Fr No w w' → Q .normal ⟨rgF v0 (.pointer (some ⟨p, 0, none⟩)) (.bool false) v5 v6 v7 v8 v9 v10 v11 b, []⟩ w') :
    Code.wp Tryz.prog rg1 Q ⟨rgF v0 undef undef undef undef undef undef undef undef undef b, []⟩ w := by
  have x2 := hb.cell 2
  simp only [Od.cs, List.getElem?_toArray, List.getElem?_cons_zero, List.getElem?_cons_succ] at x2
  have HX : Hid (∀ W, Fr No w W → Fr No w W ∧ W.cell? ⟨b, 2, none⟩ = some (.int .i64 o.kd)) := fun W hW => ⟨hW, hW.cell_some x2 (fun h => h)⟩
  have HSH := Lib.hid (fun W => shapes_any W)
  have hw1 : Fr No w w.drew := (Fr.refl No w).drew
  have HQ := Lib.hid hQ
  have HB := Lib.hid hb.lt
  have HLK : Hid (∀ m W, Tab Tryz.prog 3 W m 7 shapeF → (Instr.lookup 129 (.map (some m)) (.int .i64 o.kd) true).run Tryz.prog W = .ok (.tuple #[.agg #[.nilFunc, .nilFunc, .nilFunc, .nilFunc, .nilFunc, .nilFunc, .nilFunc], .bool false]) W) := fun m W h => by
    have h1 := h.look_ok Tryz.underlying3 Tryz.underlying129 (zeroS W) o.kd hkd
    rw [hk] at h1
    exact h1
  clear hb hQ x2 hk
  unfold rgF
  conv => arg 2; whnf
  refine wp_region_noPanic ?_
  have y0 := (HX.out _ hw1).2
  have y1 := fun O => (HX.out _ ((Fr.refl No w).alloc O).drew).2
  go_region_with (go_at_call 59; (with_reducible refine (HSH.out _).mono ?_); rintro e w4 ⟨m, rfl, hT, hf4⟩; have hlk := HLK.out m _ hT; have hlka := (fun O => HLK.out m _ (hT.fr ((Fr.refl No _).alloc O) (fun h => h))); have hg4 := (fun h => Fr.trans (S := No) (a := w) h hf4) (by first | exact hw1 | exact (Fr.drew (Fr.alloc (Fr.refl No w) _))); have y4 := (HX.out _ hg4).2; have y5 := (fun O => (HX.out _ (hg4.alloc O)).2); (try (have hbz : Blk w4 w.heap.size 127 zs7 := Blk.fr (w := ((w.alloc (.cells zs7 127)).drew)) (Blk.new w 127 zs7) hf4 (fun h => h); have z0 := hbz.cell 0; have z1 := hbz.cell 1; have z2 := hbz.cell 2; have z3 := hbz.cell 3; have z4 := hbz.cell 4; have z5 := hbz.cell 5; have z6 := hbz.cell 6; have fz := hbz.frozen; simp only [zs7, List.getElem?_toArray, List.getElem?_cons_zero, List.getElem?_cons_succ] at z0 z1 z2 z3 z4 z5 z6)))
  all_goals
    refine HQ.out _ _ _ _ _ _ _ _ _ ?_
  all_goals
    first
      | (with_reducible exact hg4.alloc _)
      | exact ((((((hg4.setCell (p := ⟨w.heap.size, 0, none⟩) (fun h => absurd h (Nat.lt_irrefl _)) _).setCell (p := ⟨w.heap.size, 1, none⟩) (fun h => absurd h (Nat.lt_irrefl _)) _).setCell (p := ⟨w.heap.size, 2, none⟩) (fun h => absurd h (Nat.lt_irrefl _)) _).setCell (p := ⟨w.heap.size, 3, none⟩) (fun h => absurd h (Nat.lt_irrefl _)) _).setCell (p := ⟨w.heap.size, 4, none⟩) (fun h => absurd h (Nat.lt_irrefl _)) _).setCell (p := ⟨w.heap.size, 5, none⟩) (fun h => absurd h (Nat.lt_irrefl _)) _).setCell (p := ⟨w.heap.size, 6, none⟩) (fun h => absurd h (Nat.lt_irrefl _)) _
end Go.Proofs.YtlanhclgbkhdlaaGreat
