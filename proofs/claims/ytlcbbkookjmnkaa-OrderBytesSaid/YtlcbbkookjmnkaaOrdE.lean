/- Replies that are told and read. -/
import Derived.Test.YtlcbbkookjmnkaaOrdD
import Derived.Deep.RegionHeld3
import Derived.Deep.DrawnRows
namespace Go.Proofs.Ytlcbbkookjmnkaa
open Go.RowKit Go.My Go.Maps
set_option linter.unusedSimpArgs false
set_option linter.unusedVariables false
attribute [local go_sem ↓] Go.wp_at_zero Go.wp_at_succ

theorem readR_case (B : List UInt8) : (readR B = ⟨0, 0, 0, 0⟩ ∧ readRE B = 3) ∨ (∃ a b c d, readR B = ⟨a, b, c, d⟩ ∧ readRE B = 0 ∧ toldB ⟨a, b, c, d⟩ = B ∧ Rp.ok ⟨a, b, c, d⟩) := by
  by_cases h : readRB B = true
  · have h1 := readR_bytes h
    have h2 : readRE B = 0 := by unfold readRE; rw [if_pos h]
    revert h1
    generalize readR B = X
    intro h1
    obtain ⟨a, b, c, d⟩ := X
    exact .inr ⟨a, b, c, d, rfl, h2, h1.1, h1.2.1⟩
  · refine .inl ⟨?_, ?_⟩
    · unfold readR
      rw [if_neg h]
      rfl
    · unfold readRE
      rw [if_neg h]
set_option maxRecDepth 100000 in
set_option maxHeartbeats 40000000 in
theorem orderReplies_walk (v : Value) (r : Rp) (A : Option Addr) (c : Nat) (l : List UInt8) (w : World) (rv : v = r.val ∧ r.ok) (rd : Rd w (Lt w.heap.size) 1 A l.length (bs l)) (lc : l.length ≤ c) (cm : c ≤ maxLen) :
    Calls Try.prog 6 #[v, .slice A l.length c] w (RetTrue w) := by
  obtain ⟨rfl, hok⟩ := rv
  have hBl : (l.take (min (l.length : Int) 100).toNat).length = (min (l.length : Int) 100).toNat := by rw [List.length_take]; omega
  have rdB : Rd w (Lt w.heap.size) 1 A (min (l.length : Int) 100).toNat (bs (l.take (min (l.length : Int) 100).toNat)) := by
    have h := rd.take (k := (min (l.length : Int) 100).toNat) (by omega)
    rw [bs_take]
    simpa using h
  have hBn : (min (l.length : Int) 100).toNat ≤ 100 := by omega
  generalize l.take (min (l.length : Int) 100).toNat = B at *
  have HMN : Hid (0 ≤ min (l.length : Int) 100 ∧ min (l.length : Int) 100 ≤ (c : Int)) := ⟨by omega, by omega⟩
  have HRT : Hid (∀ W, Below w.heap.size w W → Calls Try.prog 23 #[.slice A (min (l.length : Int) 100).toNat c] W fun e w' => e = .returned (.tuple #[(readR B).val, .int .i64 (readRE B)]) ∧ Fr No W w') := fun W hW =>
    oreadt_any _ A _ c B W hBl (rdB.below hW fun _ h => h) (by omega)
  have HSB : Hid (∀ (W : World) (A2 : Option Addr) (c2 : Nat) (r : Rp), Below w.heap.size w W → toldB r = B → Own W 5 1 (.slice A2 (toldB r).length c2) (toldB r).length (bs (toldB r)) → Calls Try.prog 15 #[.slice A2 (toldB r).length c2, .slice A (min (l.length : Int) 100).toNat c] W fun e w' => e = .returned (.bool true) ∧ W = w') := fun W A2 c2 r hW he ho =>
    sameB_eq _ _ A2 A _ c2 _ c _ B W he ho.rd (rdB.below hW fun _ h => h)
  have HTE : Hid (∀ (W : World) (r : Rp), r.ok → Calls Try.prog 16 #[.agg #[.int .i64 r.err, .int .i64 r.hv, .int .i64 r.st, .int .i64 r.num]] W fun e W' => ∃ A c, e = .returned (.slice A (toldB r).length c) ∧ Own W' 5 1 (.slice A (toldB r).length c) (toldB r).length (bs (toldB r)) ∧ Fr No W W') := fun W r h => told_any r h W
  have HCASE : Hid ((readR B = ⟨0, 0, 0, 0⟩ ∧ readRE B = 3) ∨ (∃ a b c d, readR B = ⟨a, b, c, d⟩ ∧ readRE B = 0 ∧ toldB ⟨a, b, c, d⟩ = B ∧ Rp.ok ⟨a, b, c, d⟩)) := by
    exact readR_case B
  clear rdB rd
  obtain ⟨re, rh, rs, rn⟩ := r
  unfold Rp.val
  simp only
  have HTD : Hid (∀ W : World, ∀ e W', RetB (toldB ⟨re, rh, rs, rn⟩) W e W' → ∃ A c, e = .returned (.slice A (toldB ⟨re, rh, rs, rn⟩).length c) ∧ Own W' 5 1 (.slice A (toldB ⟨re, rh, rs, rn⟩).length c) (toldB ⟨re, rh, rs, rn⟩).length (bs (toldB ⟨re, rh, rs, rn⟩)) ∧ Fr No W W') := fun W e W' h => h
  have HTL := Lib.hid (toldB_len ⟨re, rh, rs, rn⟩)
  have HT1 := Lib.hid (fun W => told_any ⟨re, rh, rs, rn⟩ hok W)
  have hbx := Blk.new w 29 #[.int .i64 re, .int .i64 rh, .int .i64 rs, .int .i64 rn]
  go_enter Try.func6, Try.ntmps6
  go_wp2_with fail
  refine (lives6 _).mono ?_
  rintro e w1 ⟨rfl, hb1⟩
  have hbx1 := hbx.below hb1 (by simp)
  have HBX := Lib.hid hbx1
  have x0 := hbx1.cell 0
  have x1 := hbx1.cell 1
  have x2 := hbx1.cell 2
  have x3 := hbx1.cell 3
  simp only [List.getElem?_toArray, List.getElem?_cons_zero, List.getElem?_cons_succ] at x0 x1 x2 x3
  have hB : Below w.heap.size w w1 := ((Below.refl _ _).alloc (Nat.le_refl _) _).trans (hb1.mono (by simp))
  clear hbx hbx1 hb1
  go_wp2_with fail
  refine (HT1.out _).mono ?_
  intro e w2 hre
  obtain ⟨A2, c2, rfl, ho2, hf2⟩ := HTD.out _ _ _ hre
  clear hre
  have y0 := (HBX.out.fr hf2 (fun h => h)).cell 0
  have y1 := (HBX.out.fr hf2 (fun h => h)).cell 1
  have y2 := (HBX.out.fr hf2 (fun h => h)).cell 2
  have y3 := (HBX.out.fr hf2 (fun h => h)).cell 3
  have hB2 : Below w.heap.size w w2 := below_fr_no hB hf2 hB.size
  go_wp2_with fail
  refine (oreadt_any _ A2 (toldB ⟨re, rh, rs, rn⟩).length c2 (toldB ⟨re, rh, rs, rn⟩) w2 rfl ho2.rd (by have := HTL.out; omega)).mono ?_
  rintro e w3 ⟨rfl, hf3⟩
  have hB3 : Below w.heap.size w w3 := below_fr_no hB2 hf3 hB2.size
  have hx3 := Lib.hid ((HBX.out.fr hf2 (fun h => h)).fr hf3 (fun h => h))
  clear hB hB2 hf2 hf3 ho2 HBX x0 x1 x2 x3 y0 y1 y2 y3
  have TR : Hid (((0 ≤ re ∧ re ≤ 14) ∧ readRE (toldB ⟨re, rh, rs, rn⟩) = 0 ∧ readR (toldB ⟨re, rh, rs, rn⟩) = ⟨re, rh, rs, rn⟩) ∨ (¬ (0 ≤ re ∧ re ≤ 14) ∧ readRE (toldB ⟨re, rh, rs, rn⟩) = 3)) := by
    by_cases h : 0 ≤ re ∧ re ≤ 14
    · have ⟨h1, h2⟩ := told_read hok h
      exact .inl ⟨h, by unfold readRE; rw [if_pos h1], h2⟩
    · have h1 := rawR_bad hok h
      exact .inr ⟨h, by unfold readRE; rw [h1]; rfl⟩
  generalize readR (toldB ⟨re, rh, rs, rn⟩) = X at *
  generalize readRE (toldB ⟨re, rh, rs, rn⟩) = Y at *
  obtain ⟨xe, xh, xs, xn⟩ := X
  unfold Rp.val
  simp only
  have hbs := Blk.new w3 29 #[.int .i64 xe, .int .i64 xh, .int .i64 xs, .int .i64 xn]
  have hx4 := hx3.out.alloc (.cells #[.int .i64 xe, .int .i64 xh, .int .i64 xs, .int .i64 xn] 29)
  have hB4 : Below w.heap.size w (w3.alloc (.cells #[.int .i64 xe, .int .i64 xh, .int .i64 xs, .int .i64 xn] 29)) := hB3.alloc hB3.size _
  have s0 := hbs.cell 0
  have s1 := hbs.cell 1
  have s2 := hbs.cell 2
  have s3 := hbs.cell 3
  have z0 := hx4.cell 0
  have z1 := hx4.cell 1
  have z2 := hx4.cell 2
  have z3 := hx4.cell 3
  simp only [List.getElem?_toArray, List.getElem?_cons_zero, List.getElem?_cons_succ] at z0 z1 z2 z3 s0 s1 s2 s3
  go_upto_region 4 with (fail)
  generalize w3.alloc (.cells #[.int .i64 xe, .int .i64 xh, .int .i64 xs, .int .i64 xn] 29) = w4 at *
  have TR' : (0 ≤ re ∧ re ≤ 14 ∧ Y = 0 ∧ xe = re ∧ xh = rh ∧ xs = rs ∧ xn = rn) ∨ (¬ 0 ≤ re ∧ Y = 3) ∨ (0 ≤ re ∧ ¬ re ≤ 14 ∧ Y = 3) := by
    rcases TR.out with ⟨h1, h2, h3⟩ | ⟨h1, h2⟩
    · simp only [Rp.mk.injEq] at h3
      exact .inl ⟨h1.1, h1.2, h2, h3.1, h3.2.1, h3.2.2.1, h3.2.2.2⟩
    · by_cases h : 0 ≤ re
      · exact .inr (.inr ⟨h, fun h' => h1 ⟨h, h'⟩, h2⟩)
      · exact .inr (.inl ⟨h, h2⟩)
  clear TR hB3 hbs hx4 hx3 HTD HTL HT1
  have HB4 := Lib.hid hB4
  clear hB4 hok hBl hBn
  rcases TR' with ⟨t1, t2, rfl, rfl, rfl, rfl, rfl⟩ | ⟨t1, rfl⟩ | ⟨t1, t2, rfl⟩
  all_goals
    go_wp2_with fail
    refine (HRT.out _ HB4.out).mono ?_
    rintro e w5 ⟨rfl, hf5⟩
    have hb5 := below_fr_no HB4.out hf5 HB4.out.size
    rcases HCASE.out with ⟨e1, e2⟩ | ⟨ya, yb, yc, yd, e1, e2, e3, e4⟩
    · rw [e1, e2]
      unfold Rp.val
      simp only
      have hby := Blk.new w5 29 #[.int .i64 0, .int .i64 0, .int .i64 0, .int .i64 0]
      have hb6 : Below w.heap.size w (w5.alloc (.cells #[.int .i64 0, .int .i64 0, .int .i64 0, .int .i64 0] 29)) := hb5.alloc hb5.size _
      go_upto_region 7 with (fail)
      generalize w5.alloc (.cells #[.int .i64 0, .int .i64 0, .int .i64 0, .int .i64 0] 29) = w6 at *
      have y0 := hby.cell 0
      have y1 := hby.cell 1
      have y2 := hby.cell 2
      have y3 := hby.cell 3
      simp only [List.getElem?_toArray, List.getElem?_cons_zero, List.getElem?_cons_succ] at y0 y1 y2 y3
      have HB6 := Lib.hid hb6
      clear hby hb6 hb5 hf5 z0 z1 z2 z3 s0 s1 s2 s3 e1 e2
      go_quiet (fail)
      go_wp2
      go_ret
      first
        | exact ⟨rfl, HB6.out⟩
        | exact ⟨rfl, below_fr_no HB6.out ((Fr.refl No _).drewN _) HB6.out.size⟩
        | exact ⟨rfl, below_fr_no HB6.out (((Fr.refl No _).drewN _).drewN _) HB6.out.size⟩
    · rw [e1, e2]
      have E3 := Lib.hid e3
      have E4 := Lib.hid e4
      clear e1 e2 e3 e4
      unfold Rp.val
      simp only
      have hby := Blk.new w5 29 #[.int .i64 ya, .int .i64 yb, .int .i64 yc, .int .i64 yd]
      have hb6 : Below w.heap.size w (w5.alloc (.cells #[.int .i64 ya, .int .i64 yb, .int .i64 yc, .int .i64 yd] 29)) := hb5.alloc hb5.size _
      go_upto_region 7 with (fail)
      generalize w5.alloc (.cells #[.int .i64 ya, .int .i64 yb, .int .i64 yc, .int .i64 yd] 29) = w6 at *
      have y0 := hby.cell 0
      have y1 := hby.cell 1
      have y2 := hby.cell 2
      have y3 := hby.cell 3
      simp only [List.getElem?_toArray, List.getElem?_cons_zero, List.getElem?_cons_succ] at y0 y1 y2 y3
      have HB6 := Lib.hid hb6
      have HY : Hid (∀ W, Fr No w6 W → Below w.heap.size w W) := fun W hW => below_fr_no HB6.out hW HB6.out.size
      have hw6 : Fr No w6 w6.drew := (Fr.refl No w6).drew
      have HBY := Lib.hid hby
      clear hby hb6 hb5 hf5 z0 z1 z2 z3 s0 s1 s2 s3
      have HX : Hid (∀ W, Fr No w6 W → Fr No w6 W ∧ W.cell? ⟨w5.heap.size, 0, none⟩ = some (.int .i64 ya) ∧ W.cell? ⟨w5.heap.size, 1, none⟩ = some (.int .i64 yb) ∧ W.cell? ⟨w5.heap.size, 2, none⟩ = some (.int .i64 yc) ∧ W.cell? ⟨w5.heap.size, 3, none⟩ = some (.int .i64 yd)) := fun W hW => by
        have h := HBY.out.fr hW (fun h => h)
        exact ⟨hW, h.cell 0, h.cell 1, h.cell 2, h.cell 3⟩
      refine wp_region_held_drew (S := fun W => Fr No w6 W ∧ W.cell? ⟨w5.heap.size, 0, none⟩ = some (.int .i64 ya) ∧ W.cell? ⟨w5.heap.size, 1, none⟩ = some (.int .i64 yb) ∧ W.cell? ⟨w5.heap.size, 2, none⟩ = some (.int .i64 yc) ∧ W.cell? ⟨w5.heap.size, 3, none⟩ = some (.int .i64 yd)) (by kernel_rfl) ?_ (fun hH0 => ?_)
      · exact HX.out _ hw6
      refine wpAnyH_take (i := 0) (v := ?_) rfl (by kernel_rfl) (by kernel_rfl) (by kernel_rfl) (fun _ _ _ h => h) (Or.inl ⟨by rfl, ?_⟩) hH0 ?_
      rotate_left
      · (intro w hSw; (try dsimp only at hSw); go_simp; try with_reducible rfl)
      (try simp only [Act.put, List.getElem_toArray, List.getElem_cons_zero, List.getElem_cons_succ, List.setIfInBounds_toArray, List.set_cons_zero, List.set_cons_succ])
      refine wpAnyH_take (i := 1) (v := ?_) rfl (by kernel_rfl) (by kernel_rfl) (by kernel_rfl) (fun _ _ _ h => h) (Or.inl ⟨by rfl, ?_⟩) hH0 ?_
      rotate_left
      · (intro w hSw; (try dsimp only at hSw); go_simp; try with_reducible rfl)
      (try simp only [Act.put, List.getElem_toArray, List.getElem_cons_zero, List.getElem_cons_succ, List.setIfInBounds_toArray, List.set_cons_zero, List.set_cons_succ])
      refine wpAnyH_take (i := 2) (v := ?_) rfl (by kernel_rfl) (by kernel_rfl) (by kernel_rfl) (fun _ _ _ h => h) (Or.inl ⟨by rfl, ?_⟩) hH0 ?_
      rotate_left
      · (intro w hSw; (try dsimp only at hSw); go_simp; try with_reducible rfl)
      (try simp only [Act.put, List.getElem_toArray, List.getElem_cons_zero, List.getElem_cons_succ, List.setIfInBounds_toArray, List.set_cons_zero, List.set_cons_succ])
      refine wpAnyH_take (i := 3) (v := undef) rfl (by kernel_rfl) (by kernel_rfl) (by kernel_rfl) (fun _ _ _ h => h) (Or.inr ⟨by rfl, rfl⟩) hH0 ?_
      (try simp only [Act.put, List.getElem_toArray, List.getElem_cons_zero, List.getElem_cons_succ, List.setIfInBounds_toArray, List.set_cons_zero, List.set_cons_succ])
      refine wpAnyH_take (i := 4) (v := undef) rfl (by kernel_rfl) (by kernel_rfl) (by kernel_rfl) (fun _ _ _ h => h) (Or.inr ⟨by rfl, rfl⟩) hH0 ?_
      (try simp only [Act.put, List.getElem_toArray, List.getElem_cons_zero, List.getElem_cons_succ, List.setIfInBounds_toArray, List.set_cons_zero, List.set_cons_succ])
      refine wpAnyH_take (i := 5) (v := undef) rfl (by kernel_rfl) (by kernel_rfl) (by kernel_rfl) (fun _ _ _ h => h) (Or.inr ⟨by rfl, rfl⟩) hH0 ?_
      (try simp only [Act.put, List.getElem_toArray, List.getElem_cons_zero, List.getElem_cons_succ, List.setIfInBounds_toArray, List.set_cons_zero, List.set_cons_succ])
      refine wpAnyH_take (i := 6) (v := ?_) rfl (by kernel_rfl) (by kernel_rfl) (by kernel_rfl) (fun _ _ _ h => h) (Or.inl ⟨by rfl, ?_⟩) hH0 ?_
      rotate_left
      · (intro w hSw; (try dsimp only at hSw); go_simp; try with_reducible rfl)
      (try simp only [Act.put, List.getElem_toArray, List.getElem_cons_zero, List.getElem_cons_succ, List.setIfInBounds_toArray, List.set_cons_zero, List.set_cons_succ])
      refine wpAnyH_take (i := 7) (v := ?_) rfl (by kernel_rfl) (by kernel_rfl) (by kernel_rfl) (fun _ _ _ h => h) (Or.inl ⟨by rfl, ?_⟩) hH0 ?_
      rotate_left
      · (intro w hSw; (try dsimp only at hSw); go_simp; try with_reducible rfl)
      (try simp only [Act.put, List.getElem_toArray, List.getElem_cons_zero, List.getElem_cons_succ, List.setIfInBounds_toArray, List.set_cons_zero, List.set_cons_succ])
      refine wpAnyH_take (i := 8) (v := ?_) rfl (by kernel_rfl) (by kernel_rfl) (by kernel_rfl) (fun _ _ _ h => h) (Or.inl ⟨by rfl, ?_⟩) hH0 ?_
      rotate_left
      · (intro w hSw; (try dsimp only at hSw); go_simp; try with_reducible rfl)
      (try simp only [Act.put, List.getElem_toArray, List.getElem_cons_zero, List.getElem_cons_succ, List.setIfInBounds_toArray, List.set_cons_zero, List.set_cons_succ])
      refine wpAnyH_take (i := 9) (v := ?_) rfl (by kernel_rfl) (by kernel_rfl) (by kernel_rfl) (fun _ _ _ h => h) (Or.inl ⟨by rfl, ?_⟩) hH0 ?_
      rotate_left
      · (intro w hSw; (try dsimp only at hSw); go_simp; try with_reducible rfl)
      (try simp only [Act.put, List.getElem_toArray, List.getElem_cons_zero, List.getElem_cons_succ, List.setIfInBounds_toArray, List.set_cons_zero, List.set_cons_succ])
      refine wpAnyH_take (i := 10) (v := ?_) rfl (by kernel_rfl) (by kernel_rfl) (by kernel_rfl) (fun _ _ _ h => h) (Or.inl ⟨by rfl, ?_⟩) hH0 ?_
      rotate_left
      · (intro w hSw; (try dsimp only at hSw); go_simp; try with_reducible rfl)
      (try simp only [Act.put, List.getElem_toArray, List.getElem_cons_zero, List.getElem_cons_succ, List.setIfInBounds_toArray, List.set_cons_zero, List.set_cons_succ])
      refine wpAnyH_take (i := 11) (v := ?_) rfl (by kernel_rfl) (by kernel_rfl) (by kernel_rfl) (fun _ _ _ h => h) (Or.inl ⟨by rfl, ?_⟩) hH0 ?_
      rotate_left
      · (intro w hSw; (try dsimp only at hSw); go_simp; try with_reducible rfl)
      (try simp only [Act.put, List.getElem_toArray, List.getElem_cons_zero, List.getElem_cons_succ, List.setIfInBounds_toArray, List.set_cons_zero, List.set_cons_succ])
      refine wpAnyH_take (i := 13) (v := ?_) rfl (by kernel_rfl) (by kernel_rfl) (by kernel_rfl) (fun _ _ _ h => h) (Or.inl ⟨by rfl, ?_⟩) hH0 ?_
      rotate_left
      · (intro w hSw; (try dsimp only at hSw); go_simp; try with_reducible rfl)
      (try simp only [Act.put, List.getElem_toArray, List.getElem_cons_zero, List.getElem_cons_succ, List.setIfInBounds_toArray, List.set_cons_zero, List.set_cons_succ])
      refine wpAnyH_take (i := 14) (v := ?_) rfl (by kernel_rfl) (by kernel_rfl) (by kernel_rfl) (fun _ _ _ h => h) (Or.inl ⟨by rfl, ?_⟩) hH0 ?_
      rotate_left
      · (intro w hSw; (try dsimp only at hSw); go_simp; try with_reducible rfl)
      (try simp only [Act.put, List.getElem_toArray, List.getElem_cons_zero, List.getElem_cons_succ, List.setIfInBounds_toArray, List.set_cons_zero, List.set_cons_succ])
      refine wpAnyH_take (i := 15) (v := ?_) rfl (by kernel_rfl) (by kernel_rfl) (by kernel_rfl) (fun _ _ _ h => h) (Or.inl ⟨by rfl, ?_⟩) hH0 ?_
      rotate_left
      · (intro w hSw; (try dsimp only at hSw); go_simp; try with_reducible rfl)
      (try simp only [Act.put, List.getElem_toArray, List.getElem_cons_zero, List.getElem_cons_succ, List.setIfInBounds_toArray, List.set_cons_zero, List.set_cons_succ])
      refine wpAnyH_take (i := 16) (v := ?_) rfl (by kernel_rfl) (by kernel_rfl) (by kernel_rfl) (fun _ _ _ h => h) (Or.inl ⟨by rfl, ?_⟩) hH0 ?_
      rotate_left
      · (intro w hSw; (try dsimp only at hSw); go_simp; try with_reducible rfl)
      (try simp only [Act.put, List.getElem_toArray, List.getElem_cons_zero, List.getElem_cons_succ, List.setIfInBounds_toArray, List.set_cons_zero, List.set_cons_succ])
      refine wpAnyH_take (i := 17) (v := ?_) rfl (by kernel_rfl) (by kernel_rfl) (by kernel_rfl) (fun _ _ _ h => h) (Or.inl ⟨by rfl, ?_⟩) hH0 ?_
      rotate_left
      · (intro w hSw; (try dsimp only at hSw); go_simp; rw [if_pos HMN.out])
      (try simp only [Act.put, List.getElem_toArray, List.getElem_cons_zero, List.getElem_cons_succ, List.setIfInBounds_toArray, List.set_cons_zero, List.set_cons_succ])
      refine wpAnyH_ready (rs := [12]) (by kernel_rfl) (by simp) ?_
      refine AllReadyH.cons rfl (fun K hK => ?_) AllReadyH.nil
      go_simp
      (with_reducible refine (HTE.out w6.drew ⟨ya, yb, yc, yd⟩ E4.out).mono ?_)
      rintro e u1 ⟨A8, c8, rfl, ho8, hf8⟩
      have hg1 := Fr.trans hw6 hf8
      refine hK.out _ _ ?_ (fun hH1 => ?_)
      · exact HX.out _ hg1
      clear hK K
      (try simp only [Act.put, List.getElem_toArray, List.getElem_cons_zero, List.getElem_cons_succ, List.setIfInBounds_toArray, List.set_cons_zero, List.set_cons_succ])
      refine wpAnyH_ready (rs := [18]) (by kernel_rfl) (by simp) ?_
      refine AllReadyH.cons rfl (fun K hK => ?_) AllReadyH.nil
      go_simp
      (with_reducible refine (HSB.out u1 A8 c8 ⟨ya, yb, yc, yd⟩ (HY.out _ hg1) E3.out ho8).mono ?_)
      rintro e u2 ⟨rfl, rfl⟩
      refine hK.out _ _ ?_ (fun hH2 => ?_)
      · exact HX.out _ hg1
      clear hK K
      (try simp only [Act.put, List.getElem_toArray, List.getElem_cons_zero, List.getElem_cons_succ, List.setIfInBounds_toArray, List.set_cons_zero, List.set_cons_succ])
      refine wpAnyH_take (i := 19) (v := ?_) rfl (by kernel_rfl) (by kernel_rfl) (by kernel_rfl) (fun _ _ _ h => h) (Or.inl ⟨by rfl, ?_⟩) hH2 ?_
      rotate_left
      · (intro w hSw; (try dsimp only at hSw); go_simp; try with_reducible rfl)
      (try simp only [Act.put, List.getElem_toArray, List.getElem_cons_zero, List.getElem_cons_succ, List.setIfInBounds_toArray, List.set_cons_zero, List.set_cons_succ])
      refine wpAnyH_take (i := 20) (v := ?_) rfl (by kernel_rfl) (by kernel_rfl) (by kernel_rfl) (fun _ _ _ h => h) (Or.inl ⟨by rfl, ?_⟩) hH2 ?_
      rotate_left
      · (intro w hSw; (try dsimp only at hSw); go_simp; try with_reducible rfl)
      (try simp only [Act.put, List.getElem_toArray, List.getElem_cons_zero, List.getElem_cons_succ, List.setIfInBounds_toArray, List.set_cons_zero, List.set_cons_succ])
      refine wpAnyH_take (i := 21) (v := ?_) rfl (by kernel_rfl) (by kernel_rfl) (by kernel_rfl) (fun _ _ _ h => h) (Or.inl ⟨by rfl, ?_⟩) hH2 ?_
      rotate_left
      · (intro w hSw; (try dsimp only at hSw); go_simp; try with_reducible rfl)
      (try simp only [Act.put, List.getElem_toArray, List.getElem_cons_zero, List.getElem_cons_succ, List.setIfInBounds_toArray, List.set_cons_zero, List.set_cons_succ])
      refine wpAnyH_done (by kernel_rfl) ?_ _
      go_wp2
      go_ret
      exact ⟨rfl, HY.out _ hg1⟩
end Go.Proofs.Ytlcbbkookjmnkaa
