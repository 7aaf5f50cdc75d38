/- Which orders may be, their bytes, a reply's bytes, and the accounts that an order names: the walk. -/
import Derived.Test.YtlcbbkookjmnkaaRefT
import Derived.Test.YtlcbbkookjmnkaaRefB
import Derived.Test.YtlcbbkookjmnkaaOrdI
import Derived.Test.YtlcbbkookjmnkaaOrdF
import Derived.Deep.RegionHeld3
import Derived.Deep.DrawnRows
namespace Go.Proofs.Ytlcbbkookjmnkaa
open Go.RowKit Go.My Go.Maps
set_option linter.unusedSimpArgs false
set_option linter.unusedVariables false
attribute [local go_sem ↓] Go.wp_at_zero Go.wp_at_succ

theorem sametexts_eq (A B : Option Addr) (c d : Nat) (L : List (List UInt8)) (w : World) (hr : Own w 9 1 (.slice A L.length c) L.length (ts L)) (hs : Own w 9 1 (.slice B L.length d) L.length (ts L)) (hl : L.length ≤ 1000000) :
    Calls Try.prog 18 #[.slice A L.length c, .slice B L.length d] w fun e w' => e = .returned (.bool true) ∧ Fr No w w' := by
  have h := sametexts_any _ _ A B c d L L w hr.rd hs.rd hl hl
  have e : sameL L L = true := decide_eq_true rfl
  exact h.mono fun e' w' hh => ⟨by rw [hh.1, e], hh.2⟩
def RetT (l : List (List UInt8)) (w : World) (e : Ending) (w' : World) : Prop := ∃ A c, e = .returned (.slice A l.length c) ∧ Own w' 9 1 (.slice A l.length c) l.length (ts l) ∧ Fr No w w'
theorem RetT.of {l : List (List UInt8)} {w w' : World} {e : Ending} (h : RetOwn w 9 1 none l.length (ts l) e w') : RetT l w e w' := by
  obtain ⟨v, rfl, ho, hf, _⟩ := h
  obtain ⟨A, c, rfl, _, _⟩ := ho.form
  exact ⟨A, c, rfl, ho, fr_at_none hf⟩
set_option maxRecDepth 100000 in
set_option maxHeartbeats 2000000 in
theorem orderBytes_walk (v : Value) (o : Od) (u : Value) (v2 : Value) (rp : Rp) (w : World) (hv : v = o.val u ∧ OdI w o u) (hv2 : v2 = rp.val ∧ rp.ok) :
    Calls Try.prog 3 #[v, v2] w (RetTrue w) := by
  obtain ⟨rfl, hok, hgok, hlg⟩ := hv
  obtain ⟨rfl, hrok⟩ := hv2
  obtain ⟨A0, c0, rfl, h01, h02⟩ := hlg.form
  obtain ⟨cl, sq, kd, acct, peer, sum, L, per, hold, note⟩ := o
  obtain ⟨re, rh, rs, rn⟩ := rp
  have HFEW : Hid (∀ W, Below w.heap.size w W → _) := fun W hW => few_cs (Lt w.heap.size) cl sq kd acct peer sum L per hold note (.slice A0 L.length c0) W (hlg.below hW)
  have hpok : Od.ok ⟨cl, sq, kd, acct, peer, sum, L.take 10, per, hold, note⟩ := hok
  have hpg : ∀ g ∈ L.take 10, g.ok := fun g hg => hgok g (List.mem_of_mem_take hg)
  have h10 : (L.take 10).length ≤ 10 := by rw [List.length_take]; omega
  clear hok hgok
  have hb0 := (Blk.new w 26 #[.int .i64 cl, .int .i64 sq, .int .i64 kd, .string acct, .string peer, .int .i64 sum, .slice A0 L.length c0, .int .i64 per, .int .i64 hold, .string note]).alloc (.cells #[.int .i64 re, .int .i64 rh, .int .i64 rs, .int .i64 rn] 29)
  have hbr := Blk.new (w.alloc (.cells #[.int .i64 cl, .int .i64 sq, .int .i64 kd, .string acct, .string peer, .int .i64 sum, .slice A0 L.length c0, .int .i64 per, .int .i64 hold, .string note] 26)) 29 #[.int .i64 re, .int .i64 rh, .int .i64 rs, .int .i64 rn]
  rw [World.size_alloc] at hbr
  unfold Od.val Od.cs Rp.val
  simp only
  go_enter Try.func3, Try.ntmps3
  go_wp2_with fail
  refine (lives6 _).mono ?_
  rintro e w1 ⟨rfl, hb1⟩
  have hB1 : Below w.heap.size w w1 := (((Fr.refl No w).alloc _).alloc _).belowNo.trans (hb1.mono (by simp; omega))
  have hx1 := hb0.below hb1 (by simp; omega)
  have hr1 := hbr.below hb1 (by simp)
  have x0 := hx1.cell 0
  have x1 := hx1.cell 1
  have x2 := hx1.cell 2
  have x3 := hx1.cell 3
  have x4 := hx1.cell 4
  have x5 := hx1.cell 5
  have x6 := hx1.cell 6
  have x7 := hx1.cell 7
  have x8 := hx1.cell 8
  have x9 := hx1.cell 9
  simp only [List.getElem?_toArray, List.getElem?_cons_zero, List.getElem?_cons_succ] at x0 x1 x2 x3 x4 x5 x6 x7 x8 x9
  go_wp2_with fail
  refine (HFEW.out w1 hB1).mono ?_
  rintro e w2 ⟨A2, c2, rfl, hl2, hf2⟩
  clear HFEW
  generalize L.take 10 = M at *
  have HF2 := Lib.hid hf2
  have HL2 := Lib.hid hl2
  clear hl2 hlg h01 h02 hb0 hb1 hbr
  have hr2 := hr1.fr hf2 (fun h => h)
  have hx2 := hx1.fr hf2 (fun h => h)
  clear x0 x1 x2 x3 x4 x5 x6 x7 x8 x9
  have x0 := hx2.cell 0
  have x1 := hx2.cell 1
  have x2 := hx2.cell 2
  have x3 := hx2.cell 3
  have x4 := hx2.cell 4
  have x5 := hx2.cell 5
  have x6 := hx2.cell 6
  have x7 := hx2.cell 7
  have x8 := hx2.cell 8
  have x9 := hx2.cell 9
  simp only [List.getElem?_toArray, List.getElem?_cons_zero, List.getElem?_cons_succ] at x0 x1 x2 x3 x4 x5 x6 x7 x8 x9
  have g0 := hx2.frozen 0
  have g1 := hx2.frozen 1
  have g2 := hx2.frozen 2
  have g3 := hx2.frozen 3
  have g4 := hx2.frozen 4
  have g5 := hx2.frozen 5
  have g6 := hx2.frozen 6
  have g7 := hx2.frozen 7
  have g8 := hx2.frozen 8
  have g9 := hx2.frozen 9
  go_upto_region 4 with (fail)
  obtain ⟨hx3, hf3⟩ := set10 hx2 (.int .i64 cl) (.int .i64 sq) (.int .i64 kd) (.string acct) (.string peer) (.int .i64 sum) (.slice A2 M.length c2) (.int .i64 per) (.int .i64 hold) (.string note)
  have hr3 := hr2.fr hf3 (fun h => by rw [At1] at h; omega)
  have HB3 : Hid (Below w.heap.size w ((((((((((w2.setCell ⟨w.heap.size, 0, none⟩ (Value.int IntKind.i64 cl)).setCell ⟨w.heap.size, 1, none⟩ (Value.int IntKind.i64 sq)).setCell ⟨w.heap.size, 2, none⟩ (Value.int IntKind.i64 kd)).setCell ⟨w.heap.size, 3, none⟩ (Value.string acct)).setCell ⟨w.heap.size, 4, none⟩ (Value.string peer)).setCell ⟨w.heap.size, 5, none⟩ (Value.int IntKind.i64 sum)).setCell ⟨w.heap.size, 6, none⟩ (Value.slice A2 M.length c2)).setCell ⟨w.heap.size, 7, none⟩ (Value.int IntKind.i64 per)).setCell ⟨w.heap.size, 8, none⟩ (Value.int IntKind.i64 hold)).setCell ⟨w.heap.size, 9, none⟩ (Value.string note))) := below_fr (below_fr_no hB1 HF2.out hB1.size) hf3 (below_fr_no hB1 HF2.out hB1.size).size (fun i hi => by rw [At1] at hi; omega)
  have HL3 : Hid (LgS ((((((((((w2.setCell ⟨w.heap.size, 0, none⟩ (Value.int IntKind.i64 cl)).setCell ⟨w.heap.size, 1, none⟩ (Value.int IntKind.i64 sq)).setCell ⟨w.heap.size, 2, none⟩ (Value.int IntKind.i64 kd)).setCell ⟨w.heap.size, 3, none⟩ (Value.string acct)).setCell ⟨w.heap.size, 4, none⟩ (Value.string peer)).setCell ⟨w.heap.size, 5, none⟩ (Value.int IntKind.i64 sum)).setCell ⟨w.heap.size, 6, none⟩ (Value.slice A2 M.length c2)).setCell ⟨w.heap.size, 7, none⟩ (Value.int IntKind.i64 per)).setCell ⟨w.heap.size, 8, none⟩ (Value.int IntKind.i64 hold)).setCell ⟨w.heap.size, 9, none⟩ (Value.string note)) (Lt w.heap.size) (.slice A2 M.length c2) M) := by
    obtain ⟨B, d, cells, e1, e2, e3⟩ := HL2.out
    exact ⟨B, d, cells, e1, e2.fr (by omega) hf3 (fun k hk _ hs => by rw [At1] at hs; rw [hs] at hk; exact absurd hk (Nat.lt_irrefl _)), e3⟩
  clear hx2 hx1 hr1 hr2 HL2 HF2 hB1 hf3 hf2 x0 x1 x2 x3 x4 x5 x6 x7 x8 x9 g0 g1 g2 g3 g4 g5 g6 g7 g8 g9
  generalize ((((((((((w2.setCell ⟨w.heap.size, 0, none⟩ (Value.int IntKind.i64 cl)).setCell ⟨w.heap.size, 1, none⟩ (Value.int IntKind.i64 sq)).setCell ⟨w.heap.size, 2, none⟩ (Value.int IntKind.i64 kd)).setCell ⟨w.heap.size, 3, none⟩ (Value.string acct)).setCell ⟨w.heap.size, 4, none⟩ (Value.string peer)).setCell ⟨w.heap.size, 5, none⟩ (Value.int IntKind.i64 sum)).setCell ⟨w.heap.size, 6, none⟩ (Value.slice A2 M.length c2)).setCell ⟨w.heap.size, 7, none⟩ (Value.int IntKind.i64 per)).setCell ⟨w.heap.size, 8, none⟩ (Value.int IntKind.i64 hold)).setCell ⟨w.heap.size, 9, none⟩ (Value.string note)) = w3 at *
  have x0 := hx3.cell 0
  have x1 := hx3.cell 1
  have x2 := hx3.cell 2
  have x3 := hx3.cell 3
  have x4 := hx3.cell 4
  have x5 := hx3.cell 5
  have x6 := hx3.cell 6
  have x7 := hx3.cell 7
  have x8 := hx3.cell 8
  have x9 := hx3.cell 9
  simp only [List.getElem?_toArray, List.getElem?_cons_zero, List.getElem?_cons_succ] at x0 x1 x2 x3 x4 x5 x6 x7 x8 x9
  have HBY := Lib.hid (obytes_any _ ⟨cl, sq, kd, acct, peer, sum, M, per, hold, note⟩ _ w3 hpok HL3.out)
  have HRB : Hid (∀ W, Fr No w3 W → Calls Try.prog 12 #[.agg #[.int .i64 cl, .int .i64 sq, .int .i64 kd, .string acct, .string peer, .int .i64 sum, .slice A2 M.length c2, .int .i64 per, .int .i64 hold, .string note]] W (RetNE W (obL ⟨cl, sq, kd, acct, peer, sum, M, per, hold, note⟩) (obE ⟨cl, sq, kd, acct, peer, sum, M, per, hold, note⟩))) := fun W hW => refbytes_any _ ⟨cl, sq, kd, acct, peer, sum, M, per, hold, note⟩ (.slice A2 M.length c2) W hpok (HL3.out.no hW) (by simp only; omega)
  have HRI : Hid (∀ W, Fr No w3 W → Calls Try.prog 13 #[.agg #[.int .i64 cl, .int .i64 sq, .int .i64 kd, .string acct, .string peer, .int .i64 sum, .slice A2 M.length c2, .int .i64 per, .int .i64 hold, .string note]] W fun e w' => e = .returned (.bool (rightO ⟨cl, sq, kd, acct, peer, sum, M, per, hold, note⟩)) ∧ Fr No W w') := fun W hW => rightO_any _ ⟨cl, sq, kd, acct, peer, sum, M, per, hold, note⟩ (.slice A2 M.length c2) W hpok (HL3.out.no hW)
  have HRR : Hid (∀ W, Fr No w3 W → Calls Try.prog 14 #[.agg #[.int .i64 cl, .int .i64 sq, .int .i64 kd, .string acct, .string peer, .int .i64 sum, .slice A2 M.length c2, .int .i64 per, .int .i64 hold, .string note]] W fun e w' => e = .returned (.bool (rightO ⟨cl, sq, kd, acct, peer, sum, M, per, hold, note⟩)) ∧ Fr No W w') := fun W hW => refrightO_any _ ⟨cl, sq, kd, acct, peer, sum, M, per, hold, note⟩ (.slice A2 M.length c2) W hpok (HL3.out.no hW) (by simp only; omega)
  have HTO : Hid (∀ W, Fr No w3 W → Calls Try.prog 19 #[.agg #[.int .i64 cl, .int .i64 sq, .int .i64 kd, .string acct, .string peer, .int .i64 sum, .slice A2 M.length c2, .int .i64 per, .int .i64 hold, .string note]] W (RetT (touchL ⟨cl, sq, kd, acct, peer, sum, M, per, hold, note⟩) W)) := fun W hW => (touches_any _ ⟨cl, sq, kd, acct, peer, sum, M, per, hold, note⟩ (.slice A2 M.length c2) W (HL3.out.no hW) (by simp only; omega)).mono fun e w' h => RetT.of h
  have HTR : Hid (∀ W, Fr No w3 W → Calls Try.prog 20 #[.agg #[.int .i64 cl, .int .i64 sq, .int .i64 kd, .string acct, .string peer, .int .i64 sum, .slice A2 M.length c2, .int .i64 per, .int .i64 hold, .string note]] W (RetT (touchL ⟨cl, sq, kd, acct, peer, sum, M, per, hold, note⟩) W)) := fun W hW => (reftouches_any _ ⟨cl, sq, kd, acct, peer, sum, M, per, hold, note⟩ (.slice A2 M.length c2) W hpok hpg (HL3.out.no hW) (by simp only; omega)).mono fun e w' h => RetT.of h
  have HTD : Hid (∀ W, Calls Try.prog 16 #[.agg #[.int .i64 re, .int .i64 rh, .int .i64 rs, .int .i64 rn]] W (RetB (toldB ⟨re, rh, rs, rn⟩) W)) := fun W => told_any ⟨re, rh, rs, rn⟩ hrok W
  have HTE : Hid (∀ W, Calls Try.prog 17 #[.agg #[.int .i64 re, .int .i64 rh, .int .i64 rs, .int .i64 rn]] W (RetB (toldB ⟨re, rh, rs, rn⟩) W)) := fun W => (reftold_any ⟨re, rh, rs, rn⟩ hrok W).mono fun e w' ⟨A, c, he, hr, hf⟩ => ⟨A, c, he, hr.1, hf⟩
  have HTL : Hid ((touchL ⟨cl, sq, kd, acct, peer, sum, M, per, hold, note⟩).length ≤ 1000000) := by
    have := touch_length ⟨cl, sq, kd, acct, peer, sum, M, per, hold, note⟩
    show _ ≤ _
    simp only at this
    omega
  generalize touchL ⟨cl, sq, kd, acct, peer, sum, M, per, hold, note⟩ = T at *
  generalize toldB ⟨re, rh, rs, rn⟩ = TB at *
  generalize rightO ⟨cl, sq, kd, acct, peer, sum, M, per, hold, note⟩ = R at *
  generalize obL ⟨cl, sq, kd, acct, peer, sum, M, per, hold, note⟩ = X at *
  generalize obE ⟨cl, sq, kd, acct, peer, sum, M, per, hold, note⟩ = Y at *
  unfold Od.val Od.cs at HBY
  simp only at HBY
  have HX3 := Lib.hid hx3
  have HR3 := Lib.hid hr3
  clear hpok hpg hrok hx3 hr3
  go_wp2_with fail
  refine HBY.out.mono ?_
  rintro e w4 ⟨A4, c4, rfl, ho4, hf4⟩
  have HO4 := Lib.hid ho4
  have HF4 := Lib.hid hf4
  have hx4 := HX3.out.fr hf4 (fun h => h)
  clear ho4 hf4 HBY x0 x1 x2 x3 x4 x5 x6 x7 x8 x9
  have x0 := hx4.cell 0
  have x1 := hx4.cell 1
  have x2 := hx4.cell 2
  have x3 := hx4.cell 3
  have x4 := hx4.cell 4
  have x5 := hx4.cell 5
  have x6 := hx4.cell 6
  have x7 := hx4.cell 7
  have x8 := hx4.cell 8
  have x9 := hx4.cell 9
  simp only [List.getElem?_toArray, List.getElem?_cons_zero, List.getElem?_cons_succ] at x0 x1 x2 x3 x4 x5 x6 x7 x8 x9
  clear hx4
  go_wp2_with fail
  refine (HRB.out _ HF4.out).mono ?_
  rintro e w5 ⟨A5, c5, rfl, ho5, hf5⟩
  have HO5 := Lib.hid ho5
  have HOX := Lib.hid (HO4.out.fr hf5 (fun _ _ h => h))
  have HF5 := Lib.hid (HF4.out.trans hf5)
  have hx5 := HX3.out.fr HF5.out (fun h => h)
  have hr5 := HR3.out.fr HF5.out (fun h => h)
  clear ho5 hf5 HRB HX3 HR3 HO4 HF4 x0 x1 x2 x3 x4 x5 x6 x7 x8 x9
  have HX : Hid (∀ W, Fr No w5 W → (fun W => Fr No w5 W ∧ W.cell? ⟨w.heap.size, 0, none⟩ = some (.int .i64 cl) ∧ W.cell? ⟨w.heap.size, 1, none⟩ = some (.int .i64 sq) ∧ W.cell? ⟨w.heap.size, 2, none⟩ = some (.int .i64 kd) ∧ W.cell? ⟨w.heap.size, 3, none⟩ = some (.string acct) ∧ W.cell? ⟨w.heap.size, 4, none⟩ = some (.string peer) ∧ W.cell? ⟨w.heap.size, 5, none⟩ = some (.int .i64 sum) ∧ W.cell? ⟨w.heap.size, 6, none⟩ = some (.slice A2 M.length c2) ∧ W.cell? ⟨w.heap.size, 7, none⟩ = some (.int .i64 per) ∧ W.cell? ⟨w.heap.size, 8, none⟩ = some (.int .i64 hold) ∧ W.cell? ⟨w.heap.size, 9, none⟩ = some (.string note) ∧ W.cell? ⟨w.heap.size + 1, 0, none⟩ = some (.int .i64 re) ∧ W.cell? ⟨w.heap.size + 1, 1, none⟩ = some (.int .i64 rh) ∧ W.cell? ⟨w.heap.size + 1, 2, none⟩ = some (.int .i64 rs) ∧ W.cell? ⟨w.heap.size + 1, 3, none⟩ = some (.int .i64 rn)) W) := fun W hW => by
    have h := hx5.fr hW (fun h => h)
    have k := hr5.fr hW (fun h => h)
    exact ⟨hW, h.cell 0, h.cell 1, h.cell 2, h.cell 3, h.cell 4, h.cell 5, h.cell 6, h.cell 7, h.cell 8, h.cell 9, k.cell 0, k.cell 1, k.cell 2, k.cell 3⟩
  obtain ⟨_, x0, x1, x2, x3, x4, x5, x6, x7, x8, x9, z0, z1, z2, z3⟩ := HX.out w5 (Fr.refl _ _)
  have hww : Fr No w5 w5.drew := (Fr.refl _ _).drew
  have HQ : Hid (∀ W, Fr No w5 W → Fr No w3 W) := fun W hW => HF5.out.trans hW
  have HSAB : Hid (∀ W, Fr No w5 W → Calls Try.prog 15 #[.slice A4 X.length c4, .slice A5 X.length c5] W fun e w' => e = .returned (.bool true) ∧ Fr No W w') := fun W hW => (sameB_eq _ _ A4 A5 _ c4 _ c5 X X W rfl (HOX.out.fr hW (fun _ _ h => h)).rd (HO5.out.fr hW (fun _ _ h => h)).rd).mono fun e w' h => ⟨h.1, by rw [← h.2]; exact Fr.refl _ _⟩
  clear hx5 hr5
  go_upto_region 6 with (fail)
  go_region_held3 (fun W => Fr No w5 W ∧ W.cell? ⟨w.heap.size, 0, none⟩ = some (.int .i64 cl) ∧ W.cell? ⟨w.heap.size, 1, none⟩ = some (.int .i64 sq) ∧ W.cell? ⟨w.heap.size, 2, none⟩ = some (.int .i64 kd) ∧ W.cell? ⟨w.heap.size, 3, none⟩ = some (.string acct) ∧ W.cell? ⟨w.heap.size, 4, none⟩ = some (.string peer) ∧ W.cell? ⟨w.heap.size, 5, none⟩ = some (.int .i64 sum) ∧ W.cell? ⟨w.heap.size, 6, none⟩ = some (.slice A2 M.length c2) ∧ W.cell? ⟨w.heap.size, 7, none⟩ = some (.int .i64 per) ∧ W.cell? ⟨w.heap.size, 8, none⟩ = some (.int .i64 hold) ∧ W.cell? ⟨w.heap.size, 9, none⟩ = some (.string note) ∧ W.cell? ⟨w.heap.size + 1, 0, none⟩ = some (.int .i64 re) ∧ W.cell? ⟨w.heap.size + 1, 1, none⟩ = some (.int .i64 rh) ∧ W.cell? ⟨w.heap.size + 1, 2, none⟩ = some (.int .i64 rs) ∧ W.cell? ⟨w.heap.size + 1, 3, none⟩ = some (.int .i64 rn))
    (exact HX.out _ (by first | assumption | exact (Fr.refl _ _).drew)) (first
    | (go_at_call 13; (with_reducible refine (HRI.out _ (HQ.out _ hww)).mono ?_); rintro e u1 ⟨rfl, f1⟩; have g1 := Fr.trans hww f1)
    | (go_at_call 14; (with_reducible refine (HRR.out _ (HQ.out _ g1)).mono ?_); rintro e u2 ⟨rfl, f2⟩; have g2 := Fr.trans g1 f2)
    | (go_at_call 15; (with_reducible refine (HSAB.out _ g2).mono ?_); rintro e u3 ⟨rfl, f3⟩; have g3 := Fr.trans g2 f3)
    | (go_at_call 16; (with_reducible refine (HTD.out _).mono ?_); rintro e u4 ⟨B4, d4, rfl, o4, f4⟩; have g4 := Fr.trans g3 f4)
    | (go_at_call 17; (with_reducible refine (HTE.out _).mono ?_); rintro e u5 ⟨B5, d5, rfl, o5, f5⟩; have g5 := Fr.trans g4 f5; have o6 := Own.fr o4 f5 (fun _ _ h => h); have hsm := sameB_eq _ _ B4 B5 _ d4 _ d5 TB TB u5 rfl o6.rd o5.rd)
    | (go_at_call 15; (with_reducible refine hsm.mono ?_); rintro e u6 ⟨rfl, rfl⟩)
    | (go_at_call 19; (with_reducible refine (HTO.out _ (HQ.out _ g5)).mono ?_); rintro e u7 ⟨B7, d7, rfl, o7, f7⟩; have g7 := Fr.trans g5 f7)
    | (go_at_call 20; (with_reducible refine (HTR.out _ (HQ.out _ g7)).mono ?_); rintro e u8 ⟨B8, d8, rfl, o8, f8⟩; have g8 := Fr.trans g7 f8; have o9 := Own.fr o7 f8 (fun _ _ h => h); have hst := sametexts_eq B7 B8 d7 d8 T u8 o9 o8 HTL.out)
    | (go_at_call 18; (with_reducible refine hst.mono ?_); rintro e u9 ⟨rfl, f9⟩; have g9 := Fr.trans g8 f9))
  have HEND := Lib.hid (below_fr_no HB3.out (HF5.out.trans g9) HB3.out.size)
  clear o4 o5 o6 o7 o8 o9 f1 f2 f3 f4 f5 f7 f8 f9 g1 g2 g3 g4 g5 g7 g8 g9 hww hsm hst x0 x1 x2 x3 x4 x5 x6 x7 x8 x9 z0 z1 z2 z3
  go_wp2
  go_ret
  exact ⟨rfl, HEND.out⟩
theorem orderBytes_w (v : Value) (x : Od × Value) (v2 : Value) (rp : Rp) (w : World) (hv : v = x.1.val x.2 ∧ OdI w x.1 x.2) (hv2 : v2 = rp.val ∧ rp.ok) :
    Calls Try.prog 3 #[v, v2] w (RetTrue w) := orderBytes_walk v x.1 x.2 v2 rp w hv hv2
end Go.Proofs.Ytlcbbkookjmnkaa
