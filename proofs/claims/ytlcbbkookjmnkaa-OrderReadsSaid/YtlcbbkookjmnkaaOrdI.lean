/- What is written is read, and what is read is written: the walk. -/
import Derived.Test.YtlcbbkookjmnkaaOrdH
import Derived.Deep.RegionHeld3
import Derived.Deep.DrawnRows
namespace Go.Proofs.Ytlcbbkookjmnkaa
open Go.RowKit Go.My Go.Maps
set_option linter.unusedSimpArgs false
set_option linter.unusedVariables false
attribute [local go_sem ↓] Go.wp_at_zero Go.wp_at_succ

/-- all cells of an order are written anew -/
theorem set10 {w : World} {g : Nat} {t : TypeId} {y0 y1 y2 y3 y4 y5 y6 y7 y8 y9 : Value} (h : Blk w g t #[y0, y1, y2, y3, y4, y5, y6, y7, y8, y9]) (z0 z1 z2 z3 z4 z5 z6 z7 z8 z9 : Value) :
    Blk ((((((((((w.setCell ⟨g, 0, none⟩ (z0)).setCell ⟨g, 1, none⟩ (z1)).setCell ⟨g, 2, none⟩ (z2)).setCell ⟨g, 3, none⟩ (z3)).setCell ⟨g, 4, none⟩ (z4)).setCell ⟨g, 5, none⟩ (z5)).setCell ⟨g, 6, none⟩ (z6)).setCell ⟨g, 7, none⟩ (z7)).setCell ⟨g, 8, none⟩ (z8)).setCell ⟨g, 9, none⟩ (z9)) g t #[z0, z1, z2, z3, z4, z5, z6, z7, z8, z9] ∧ Fr (At1 g) w ((((((((((w.setCell ⟨g, 0, none⟩ (z0)).setCell ⟨g, 1, none⟩ (z1)).setCell ⟨g, 2, none⟩ (z2)).setCell ⟨g, 3, none⟩ (z3)).setCell ⟨g, 4, none⟩ (z4)).setCell ⟨g, 5, none⟩ (z5)).setCell ⟨g, 6, none⟩ (z6)).setCell ⟨g, 7, none⟩ (z7)).setCell ⟨g, 8, none⟩ (z8)).setCell ⟨g, 9, none⟩ (z9)) := by
  have f0 : Fr (At1 g) w w := Fr.refl _ _
  have h1 := h.set_ 0 z0
  simp only [List.setIfInBounds_toArray, List.set_cons_zero, List.set_cons_succ] at h1
  have f1 := f0.trans (fr_set w g 0 z0)
  generalize w.setCell ⟨g, 0, none⟩ z0 = w1 at *
  clear f0 h
  have h2 := h1.set_ 1 z1
  simp only [List.setIfInBounds_toArray, List.set_cons_zero, List.set_cons_succ] at h2
  have f2 := f1.trans (fr_set w1 g 1 z1)
  generalize w1.setCell ⟨g, 1, none⟩ z1 = w2 at *
  clear f1 h1
  have h3 := h2.set_ 2 z2
  simp only [List.setIfInBounds_toArray, List.set_cons_zero, List.set_cons_succ] at h3
  have f3 := f2.trans (fr_set w2 g 2 z2)
  generalize w2.setCell ⟨g, 2, none⟩ z2 = w3 at *
  clear f2 h2
  have h4 := h3.set_ 3 z3
  simp only [List.setIfInBounds_toArray, List.set_cons_zero, List.set_cons_succ] at h4
  have f4 := f3.trans (fr_set w3 g 3 z3)
  generalize w3.setCell ⟨g, 3, none⟩ z3 = w4 at *
  clear f3 h3
  have h5 := h4.set_ 4 z4
  simp only [List.setIfInBounds_toArray, List.set_cons_zero, List.set_cons_succ] at h5
  have f5 := f4.trans (fr_set w4 g 4 z4)
  generalize w4.setCell ⟨g, 4, none⟩ z4 = w5 at *
  clear f4 h4
  have h6 := h5.set_ 5 z5
  simp only [List.setIfInBounds_toArray, List.set_cons_zero, List.set_cons_succ] at h6
  have f6 := f5.trans (fr_set w5 g 5 z5)
  generalize w5.setCell ⟨g, 5, none⟩ z5 = w6 at *
  clear f5 h5
  have h7 := h6.set_ 6 z6
  simp only [List.setIfInBounds_toArray, List.set_cons_zero, List.set_cons_succ] at h7
  have f7 := f6.trans (fr_set w6 g 6 z6)
  generalize w6.setCell ⟨g, 6, none⟩ z6 = w7 at *
  clear f6 h6
  have h8 := h7.set_ 7 z7
  simp only [List.setIfInBounds_toArray, List.set_cons_zero, List.set_cons_succ] at h8
  have f8 := f7.trans (fr_set w7 g 7 z7)
  generalize w7.setCell ⟨g, 7, none⟩ z7 = w8 at *
  clear f7 h7
  have h9 := h8.set_ 8 z8
  simp only [List.setIfInBounds_toArray, List.set_cons_zero, List.set_cons_succ] at h9
  have f9 := f8.trans (fr_set w8 g 8 z8)
  generalize w8.setCell ⟨g, 8, none⟩ z8 = w9 at *
  clear f8 h8
  have h10 := h9.set_ 9 z9
  simp only [List.setIfInBounds_toArray, List.set_cons_zero, List.set_cons_succ] at h10
  have f10 := f9.trans (fr_set w9 g 9 z9)
  generalize w9.setCell ⟨g, 9, none⟩ z9 = w10 at *
  clear f9 h9
  exact ⟨h10, f10⟩
/-- few, in cells -/
theorem few_cs (F : Nat → Prop) (cl sq kd : Int) (acct peer : ByteArray) (sum : Int) (L : List Lg) (per hold : Int) (note : ByteArray) (v : Value) (w : World) (hv : LgS w F v L) :
    Calls Try.prog 10 #[.agg #[.int .i64 cl, .int .i64 sq, .int .i64 kd, .string acct, .string peer, .int .i64 sum, v, .int .i64 per, .int .i64 hold, .string note]] w fun e w' => ∃ A c, e = .returned (.agg #[.int .i64 cl, .int .i64 sq, .int .i64 kd, .string acct, .string peer, .int .i64 sum, .slice A (L.take 10).length c, .int .i64 per, .int .i64 hold, .string note]) ∧ LgS w' F (.slice A (L.take 10).length c) (L.take 10) ∧ Fr No w w' := by
  refine (few_any F ⟨cl, sq, kd, acct, peer, sum, L, per, hold, note⟩ v w hv).mono ?_
  rintro e w' ⟨u, rfl, hl, hf⟩
  obtain ⟨A, c, rfl, h1, h2⟩ := hl.form
  exact ⟨A, c, rfl, hl, hf⟩
set_option maxRecDepth 100000 in
set_option maxHeartbeats 8000000 in
theorem orderBack_walk (v : Value) (o : Od) (u : Value) (A : Option Addr) (c : Nat) (l : List UInt8) (w : World) (hv : v = o.val u ∧ OdI w o u) (rd : Rd w (Lt w.heap.size) 1 A l.length (bs l)) (lc : l.length ≤ c) (cm : c ≤ maxLen) :
    Calls Try.prog 5 #[v, .slice A l.length c] w (RetTrue w) := by
  obtain ⟨rfl, hok, hgok, hlg⟩ := hv
  obtain ⟨A0, c0, rfl, h01, h02⟩ := hlg.form
  obtain ⟨cl, sq, kd, acct, peer, sum, L, per, hold, note⟩ := o
  have HFEW : Hid (∀ W, Below w.heap.size w W → _) := fun W hW => few_cs (Lt w.heap.size) cl sq kd acct peer sum L per hold note (.slice A0 L.length c0) W (hlg.below hW)
  have hpok : Od.ok ⟨cl, sq, kd, acct, peer, sum, L.take 10, per, hold, note⟩ := hok
  have hpg : ∀ g ∈ L.take 10, g.ok := fun g hg => hgok g (List.mem_of_mem_take hg)
  have HCASE := Lib.hid (back_case ⟨cl, sq, kd, acct, peer, sum, L.take 10, per, hold, note⟩ hpok hpg)
  have HBY : Hid (∀ W v, LgS W (Lt w.heap.size) v (L.take 10) → Calls Try.prog 11 #[.agg #[.int .i64 cl, .int .i64 sq, .int .i64 kd, .string acct, .string peer, .int .i64 sum, v, .int .i64 per, .int .i64 hold, .string note]] W (RetBE (obL ⟨cl, sq, kd, acct, peer, sum, L.take 10, per, hold, note⟩) (obE ⟨cl, sq, kd, acct, peer, sum, L.take 10, per, hold, note⟩) W)) := fun W v hv => obytes_any _ ⟨cl, sq, kd, acct, peer, sum, L.take 10, per, hold, note⟩ v W hpok hv
  have hb0 := Blk.new w 26 #[.int .i64 cl, .int .i64 sq, .int .i64 kd, .string acct, .string peer, .int .i64 sum, .slice A0 L.length c0, .int .i64 per, .int .i64 hold, .string note]
  have hBl : (l.take (min (l.length : Int) 300).toNat).length = (min (l.length : Int) 300).toNat := by rw [List.length_take]; omega
  have rdB : Rd w (Lt w.heap.size) 1 A (min (l.length : Int) 300).toNat (bs (l.take (min (l.length : Int) 300).toNat)) := by
    have h := rd.take (k := (min (l.length : Int) 300).toNat) (by omega)
    rw [bs_take]
    simpa using h
  have hBn : (min (l.length : Int) 300).toNat ≤ 300 := by omega
  generalize l.take (min (l.length : Int) 300).toNat = B at *
  have HMN : Hid (0 ≤ min (l.length : Int) 300 ∧ min (l.length : Int) 300 ≤ (c : Int)) := ⟨by omega, by omega⟩
  have HRD : Hid (∀ W, Below w.heap.size w W → Calls Try.prog 21 #[.slice A (min (l.length : Int) 300).toNat c] W (RetOd (readO B) (readE B) W)) := fun W hW =>
    oread_any _ A _ c B W hBl (rdB.below hW fun _ h => h) (by omega)
  have HSB : Hid (∀ (W : World) (A2 : Option Addr) (c2 : Nat) (X : List UInt8), Below w.heap.size w W → X = B → Own W 5 1 (.slice A2 X.length c2) X.length (bs X) → Calls Try.prog 15 #[.slice A2 X.length c2, .slice A (min (l.length : Int) 300).toNat c] W fun e w' => e = .returned (.bool true) ∧ W = w') := fun W A2 c2 X hW he ho =>
    sameB_eq _ _ A2 A _ c2 _ c _ B W he ho.rd (rdB.below hW fun _ h => h)
  have HAG := Lib.hid (again_case B)
  have HOK := Lib.hid (read_ok B)
  clear rdB rd hBl hBn lc cm
  unfold Od.val Od.cs
  simp only
  go_enter Try.func5, Try.ntmps5
  go_wp2_with fail
  refine (lives6 _).mono ?_
  rintro e w1 ⟨rfl, hb1⟩
  have hB1 : Below w.heap.size w w1 := ((Fr.refl No w).alloc _).belowNo.trans (hb1.mono (by simp))
  have hx1 := hb0.below hb1 (by simp)
  have x0 := hx1.cell 0
  have x1 := hx1.cell 1
  have x2 := hx1.cell 2
  have x3 := hx1.cell 3
  have x4 := hx1.cell 4
  have x5 := hx1.cell 5
  have x6 := hx1.cell 6
  have x7 := hx1.cell 7
  have x8 := hx1.cell 8
  have x9 := hx1.cell 9
  simp only [List.getElem?_toArray, List.getElem?_cons_zero, List.getElem?_cons_succ] at x0 x1 x2 x3 x4 x5 x6 x7 x8 x9
  go_wp2_with fail
  refine (HFEW.out w1 hB1).mono ?_
  rintro e w2 ⟨A2, c2, rfl, hl2, hf2⟩
  clear HFEW
  generalize L.take 10 = M at *
  have HF2 := Lib.hid hf2
  have HL2 := Lib.hid hl2
  clear hl2 hok hgok hlg h01 h02 hb0 hb1
  have hx2 := hx1.fr hf2 (fun h => h)
  clear x0 x1 x2 x3 x4 x5 x6 x7 x8 x9
  have x0 := hx2.cell 0
  have x1 := hx2.cell 1
  have x2 := hx2.cell 2
  have x3 := hx2.cell 3
  have x4 := hx2.cell 4
  have x5 := hx2.cell 5
  have x6 := hx2.cell 6
  have x7 := hx2.cell 7
  have x8 := hx2.cell 8
  have x9 := hx2.cell 9
  simp only [List.getElem?_toArray, List.getElem?_cons_zero, List.getElem?_cons_succ] at x0 x1 x2 x3 x4 x5 x6 x7 x8 x9
  have g0 := hx2.frozen 0
  have g1 := hx2.frozen 1
  have g2 := hx2.frozen 2
  have g3 := hx2.frozen 3
  have g4 := hx2.frozen 4
  have g5 := hx2.frozen 5
  have g6 := hx2.frozen 6
  have g7 := hx2.frozen 7
  have g8 := hx2.frozen 8
  have g9 := hx2.frozen 9
  go_upto_region 4 with (fail)
  obtain ⟨hx3, hf3⟩ := set10 hx2 (.int .i64 cl) (.int .i64 sq) (.int .i64 kd) (.string acct) (.string peer) (.int .i64 sum) (.slice A2 M.length c2) (.int .i64 per) (.int .i64 hold) (.string note)
  have HB3 : Hid (Below w.heap.size w ((((((((((w2.setCell ⟨w.heap.size, 0, none⟩ (Value.int IntKind.i64 cl)).setCell ⟨w.heap.size, 1, none⟩ (Value.int IntKind.i64 sq)).setCell ⟨w.heap.size, 2, none⟩ (Value.int IntKind.i64 kd)).setCell ⟨w.heap.size, 3, none⟩ (Value.string acct)).setCell ⟨w.heap.size, 4, none⟩ (Value.string peer)).setCell ⟨w.heap.size, 5, none⟩ (Value.int IntKind.i64 sum)).setCell ⟨w.heap.size, 6, none⟩ (Value.slice A2 M.length c2)).setCell ⟨w.heap.size, 7, none⟩ (Value.int IntKind.i64 per)).setCell ⟨w.heap.size, 8, none⟩ (Value.int IntKind.i64 hold)).setCell ⟨w.heap.size, 9, none⟩ (Value.string note))) := below_fr (below_fr_no hB1 HF2.out hB1.size) hf3 (below_fr_no hB1 HF2.out hB1.size).size (fun i hi => by rw [At1] at hi; omega)
  have HL3 : Hid (LgS ((((((((((w2.setCell ⟨w.heap.size, 0, none⟩ (Value.int IntKind.i64 cl)).setCell ⟨w.heap.size, 1, none⟩ (Value.int IntKind.i64 sq)).setCell ⟨w.heap.size, 2, none⟩ (Value.int IntKind.i64 kd)).setCell ⟨w.heap.size, 3, none⟩ (Value.string acct)).setCell ⟨w.heap.size, 4, none⟩ (Value.string peer)).setCell ⟨w.heap.size, 5, none⟩ (Value.int IntKind.i64 sum)).setCell ⟨w.heap.size, 6, none⟩ (Value.slice A2 M.length c2)).setCell ⟨w.heap.size, 7, none⟩ (Value.int IntKind.i64 per)).setCell ⟨w.heap.size, 8, none⟩ (Value.int IntKind.i64 hold)).setCell ⟨w.heap.size, 9, none⟩ (Value.string note)) (Lt w.heap.size) (.slice A2 M.length c2) M) := by
    obtain ⟨B, d, cells, e1, e2, e3⟩ := HL2.out
    exact ⟨B, d, cells, e1, e2.fr (by omega) hf3 (fun k hk _ hs => by rw [At1] at hs; rw [hs] at hk; exact absurd hk (Nat.lt_irrefl _)), e3⟩
  clear hx2 hx1 HL2 HF2 hB1 hf3 hf2 x0 x1 x2 x3 x4 x5 x6 x7 x8 x9 g0 g1 g2 g3 g4 g5 g6 g7 g8 g9
  generalize ((((((((((w2.setCell ⟨w.heap.size, 0, none⟩ (Value.int IntKind.i64 cl)).setCell ⟨w.heap.size, 1, none⟩ (Value.int IntKind.i64 sq)).setCell ⟨w.heap.size, 2, none⟩ (Value.int IntKind.i64 kd)).setCell ⟨w.heap.size, 3, none⟩ (Value.string acct)).setCell ⟨w.heap.size, 4, none⟩ (Value.string peer)).setCell ⟨w.heap.size, 5, none⟩ (Value.int IntKind.i64 sum)).setCell ⟨w.heap.size, 6, none⟩ (Value.slice A2 M.length c2)).setCell ⟨w.heap.size, 7, none⟩ (Value.int IntKind.i64 per)).setCell ⟨w.heap.size, 8, none⟩ (Value.int IntKind.i64 hold)).setCell ⟨w.heap.size, 9, none⟩ (Value.string note)) = w3 at *
  have x0 := hx3.cell 0
  have x1 := hx3.cell 1
  have x2 := hx3.cell 2
  have x3 := hx3.cell 3
  have x4 := hx3.cell 4
  have x5 := hx3.cell 5
  have x6 := hx3.cell 6
  have x7 := hx3.cell 7
  have x8 := hx3.cell 8
  have x9 := hx3.cell 9
  simp only [List.getElem?_toArray, List.getElem?_cons_zero, List.getElem?_cons_succ] at x0 x1 x2 x3 x4 x5 x6 x7 x8 x9
  go_wp2_with fail
  refine (HBY.out w3 _ HL3.out).mono ?_
  rintro e w4 ⟨A4, c4, rfl, ho4, hf4⟩
  have HX3 := Lib.hid hx3
  have hB4 : Below w.heap.size w w4 := below_fr_no HB3.out hf4 HB3.out.size
  have HL4 := Lib.hid (HL3.out.no hf4)
  have hx4 := hx3.fr hf4 (fun h => h)
  have HLEN := Lib.hid (obL_len ⟨cl, sq, kd, acct, peer, sum, M, per, hold, note⟩)
  clear HBY HL3 HB3 HX3 hx3 hpok hf4 x0 x1 x2 x3 x4 x5 x6 x7 x8 x9
  generalize hX : obL ⟨cl, sq, kd, acct, peer, sum, M, per, hold, note⟩ = X at *
  generalize hY : obE ⟨cl, sq, kd, acct, peer, sum, M, per, hold, note⟩ = Y at *
  clear hX hY
  rcases HCASE.out with ⟨rfl, e2, e3⟩ | rfl
  focus
    have HE2 := Lib.hid e2
    have HE3 := Lib.hid e3
    clear HCASE e2 e3
    go_wp2_with fail
    refine (oread_any _ A4 X.length c4 X w4 rfl ho4.rd (by have := HLEN.out; omega)).mono ?_
    rintro e w5 ⟨v5, rfl, ho5, hf5⟩
    rw [HE2.out] at ho5
    rw [HE2.out, HE3.out]
    obtain ⟨F5, hl5⟩ := LgS.of_own (L := M) ho5 hpg
    obtain ⟨A5, c5, rfl, _, _⟩ := hl5.form
    have HL5 := Lib.hid hl5
    have HB5 := Lib.hid (below_fr_no hB4 hf5 hB4.size)
    have HL6 := Lib.hid (HL4.out.no hf5)
    have hx5 := hx4.fr hf5 (fun h => h)
    clear ho4 ho5 hl5 hB4 hx4 HL4 HLEN hf5 HE2 HE3
    unfold Od.val Od.cs
    simp only
    have hby := Blk.new w5 26 #[.int .i64 cl, .int .i64 sq, .int .i64 kd, .string acct, .string peer, .int .i64 sum, .slice A5 M.length c5, .int .i64 per, .int .i64 hold, .string note]
    have HB6 : Hid (Below w.heap.size w (w5.alloc (.cells #[.int .i64 cl, .int .i64 sq, .int .i64 kd, .string acct, .string peer, .int .i64 sum, .slice A5 M.length c5, .int .i64 per, .int .i64 hold, .string note] 26))) := HB5.out.alloc HB5.out.size _
    have hx6 := hx5.alloc (.cells #[.int .i64 cl, .int .i64 sq, .int .i64 kd, .string acct, .string peer, .int .i64 sum, .slice A5 M.length c5, .int .i64 per, .int .i64 hold, .string note] 26)
    have hf6 : Fr No w5 (w5.alloc (.cells #[.int .i64 cl, .int .i64 sq, .int .i64 kd, .string acct, .string peer, .int .i64 sum, .slice A5 M.length c5, .int .i64 per, .int .i64 hold, .string note] 26)) := (Fr.refl _ _).alloc _
    have HL7 := Lib.hid (HL6.out.no hf6)
    have HL8 := Lib.hid (HL5.out.no hf6)
    go_upto_region 7 with (fail)
    clear hf6 HL5 HL6 HB5 hx5
    generalize w5.alloc (.cells #[.int .i64 cl, .int .i64 sq, .int .i64 kd, .string acct, .string peer, .int .i64 sum, .slice A5 M.length c5, .int .i64 per, .int .i64 hold, .string note] 26) = w6 at *
    have y0 := hby.cell 0
    have y1 := hby.cell 1
    have y2 := hby.cell 2
    have y3 := hby.cell 3
    have y4 := hby.cell 4
    have y5 := hby.cell 5
    have y6 := hby.cell 6
    have y7 := hby.cell 7
    have y8 := hby.cell 8
    have y9 := hby.cell 9
    simp only [List.getElem?_toArray, List.getElem?_cons_zero, List.getElem?_cons_succ] at y0 y1 y2 y3 y4 y5 y6 y7 y8 y9
    have x0 := hx6.cell 0
    have x1 := hx6.cell 1
    have x2 := hx6.cell 2
    have x3 := hx6.cell 3
    have x4 := hx6.cell 4
    have x5 := hx6.cell 5
    have x6 := hx6.cell 6
    have x7 := hx6.cell 7
    have x8 := hx6.cell 8
    have x9 := hx6.cell 9
    simp only [List.getElem?_toArray, List.getElem?_cons_zero, List.getElem?_cons_succ] at x0 x1 x2 x3 x4 x5 x6 x7 x8 x9
    have HSM : Hid (Calls Try.prog 25 #[.agg #[.int .i64 cl, .int .i64 sq, .int .i64 kd, .string acct, .string peer, .int .i64 sum, .slice A2 M.length c2, .int .i64 per, .int .i64 hold, .string note], .agg #[.int .i64 cl, .int .i64 sq, .int .i64 kd, .string acct, .string peer, .int .i64 sum, .slice A5 M.length c5, .int .i64 per, .int .i64 hold, .string note]] w6 fun e w' => e = .returned (.bool true) ∧ Fr No w6 w') := by
      have h := osame_any _ _ ⟨cl, sq, kd, acct, peer, sum, M, per, hold, note⟩ ⟨cl, sq, kd, acct, peer, sum, M, per, hold, note⟩ (.slice A2 M.length c2) (.slice A5 M.length c5) w6 HL7.out HL8.out
      rw [(eqO_iff _ _).2 rfl] at h
      exact h
    clear hby hx6 HL7 HL8
    go_wp2_with fail
    refine HSM.out.mono ?_
    rintro e w7 ⟨rfl, hf7⟩
    have HB9 := Lib.hid (below_fr_no HB6.out hf7 HB6.out.size)
    have HBF := Lib.hid (below_fr_no HB6.out hf7 HB6.out.size)
    clear hf7 HB6 HSM x0 y0 x1 y1 x2 y2 x3 y3 x4 y4 x5 y5 x6 y6 x7 y7 x8 y8 x9 y9
    generalize w7 = wf at *
  rotate_left
  focus
    have HBF := Lib.hid hB4
    clear hB4 hx4 HL4 HLEN HCASE ho4
    generalize w4 = wf at *
  all_goals
    go_upto_region 9 with (fail)
    go_wp2_with (first | rw [if_pos HMN.out] | fail)
    refine (HRD.out _ HBF.out).mono ?_
    rintro e w8 ⟨v8, rfl, ho8, hf8⟩
    have HB8 := Lib.hid (below_fr_no HBF.out hf8 HBF.out.size)
    clear hf8
    rcases HAG.out with ⟨e1, e2⟩ | ⟨e1, e2, e3, e4⟩
    · rw [e2] at ho8
      rw [e1, e2]
      obtain ⟨A8, c8, rfl, _, _⟩ := ho8.form
      clear ho8 e1 e2 HSB HOK HAG HRD
      unfold noO Od.val Od.cs
      simp only [List.length_nil]
      have hby := Blk.new w8 26 #[.int .i64 0, .int .i64 0, .int .i64 0, .string ⟨#[]⟩, .string ⟨#[]⟩, .int .i64 0, .slice A8 0 c8, .int .i64 0, .int .i64 0, .string ⟨#[]⟩]
      have HB9 : Hid (Below w.heap.size w (w8.alloc (.cells #[.int .i64 0, .int .i64 0, .int .i64 0, .string ⟨#[]⟩, .string ⟨#[]⟩, .int .i64 0, .slice A8 0 c8, .int .i64 0, .int .i64 0, .string ⟨#[]⟩] 26))) := HB8.out.alloc HB8.out.size _
      go_upto_region 11 with (fail)
      generalize w8.alloc (.cells #[.int .i64 0, .int .i64 0, .int .i64 0, .string ⟨#[]⟩, .string ⟨#[]⟩, .int .i64 0, .slice A8 0 c8, .int .i64 0, .int .i64 0, .string ⟨#[]⟩] 26) = w9 at *
      have y0 := hby.cell 0
      have y1 := hby.cell 1
      have y2 := hby.cell 2
      have y3 := hby.cell 3
      have y4 := hby.cell 4
      have y5 := hby.cell 5
      have y6 := hby.cell 6
      have y7 := hby.cell 7
      have y8 := hby.cell 8
      have y9 := hby.cell 9
      simp only [List.getElem?_toArray, List.getElem?_cons_zero, List.getElem?_cons_succ] at y0 y1 y2 y3 y4 y5 y6 y7 y8 y9
      go_wp2_with fail
      go_ret
      exact ⟨rfl, HB9.out⟩
    · have HE2 := Lib.hid e2
      have HE3 := Lib.hid e3
      have HE4 := Lib.hid e4
      rw [e1]
      clear HAG HRD e1 e2 e3 e4
      generalize readO B = q at *
      obtain ⟨qcl, qsq, qkd, qac, qpe, qsm, qlg, qpr, qhd, qnt⟩ := q
      obtain ⟨A8, c8, rfl, _, _⟩ := ho8.form
      have HL8 := Lib.hid (LgS.of_own ho8 HOK.out.2)
      clear ho8
      unfold Od.val Od.cs
      simp only at HL8 ⊢
      have hby := Blk.new w8 26 #[.int .i64 qcl, .int .i64 qsq, .int .i64 qkd, .string qac, .string qpe, .int .i64 qsm, .slice A8 qlg.length c8, .int .i64 qpr, .int .i64 qhd, .string qnt]
      have HB9 : Hid (Below w.heap.size w (w8.alloc (.cells #[.int .i64 qcl, .int .i64 qsq, .int .i64 qkd, .string qac, .string qpe, .int .i64 qsm, .slice A8 qlg.length c8, .int .i64 qpr, .int .i64 qhd, .string qnt] 26))) := HB8.out.alloc HB8.out.size _
      have HL9 : Hid (∃ F, LgS (w8.alloc (.cells #[.int .i64 qcl, .int .i64 qsq, .int .i64 qkd, .string qac, .string qpe, .int .i64 qsm, .slice A8 qlg.length c8, .int .i64 qpr, .int .i64 qhd, .string qnt] 26)) F (.slice A8 qlg.length c8) qlg) := by
        obtain ⟨F, h⟩ := HL8.out
        exact ⟨F, h.no ((Fr.refl _ _).alloc _)⟩
      clear HL8
      go_upto_region 11 with (fail)
      generalize w8.alloc (.cells #[.int .i64 qcl, .int .i64 qsq, .int .i64 qkd, .string qac, .string qpe, .int .i64 qsm, .slice A8 qlg.length c8, .int .i64 qpr, .int .i64 qhd, .string qnt] 26) = w9 at *
      have HBY : Hid (Calls Try.prog 11 #[.agg #[.int .i64 qcl, .int .i64 qsq, .int .i64 qkd, .string qac, .string qpe, .int .i64 qsm, .slice A8 qlg.length c8, .int .i64 qpr, .int .i64 qhd, .string qnt]] w9 fun e w' => ∃ A c X, e = .returned (.tuple #[.slice A X.length c, .int .i64 0]) ∧ X = B ∧ Own w' 5 1 (.slice A X.length c) X.length (bs X) ∧ Fr No w9 w') := by
        obtain ⟨F, h⟩ := HL9.out
        refine (obytes_any F ⟨qcl, qsq, qkd, qac, qpe, qsm, qlg, qpr, qhd, qnt⟩ _ w9 HOK.out.1 h).mono ?_
        rintro e w' ⟨A, c, rfl, ho, hf⟩
        rw [HE2.out]
        exact ⟨A, c, _, rfl, HE3.out, ho, hf⟩
      have HRI : Hid (∀ W, Fr No w9 W → Calls Try.prog 13 #[.agg #[.int .i64 qcl, .int .i64 qsq, .int .i64 qkd, .string qac, .string qpe, .int .i64 qsm, .slice A8 qlg.length c8, .int .i64 qpr, .int .i64 qhd, .string qnt]] W fun e w' => e = .returned (.bool true) ∧ Fr No W w') := fun W hW => by
        obtain ⟨F, h⟩ := HL9.out
        have hr := rightO_any F ⟨qcl, qsq, qkd, qac, qpe, qsm, qlg, qpr, qhd, qnt⟩ _ W HOK.out.1 (h.no hW)
        rw [HE4.out] at hr
        exact hr
      have HBY9 := Lib.hid hby
      have y0 := hby.cell 0
      have y1 := hby.cell 1
      have y2 := hby.cell 2
      have y3 := hby.cell 3
      have y4 := hby.cell 4
      have y5 := hby.cell 5
      have y6 := hby.cell 6
      have y7 := hby.cell 7
      have y8 := hby.cell 8
      have y9 := hby.cell 9
      simp only [List.getElem?_toArray, List.getElem?_cons_zero, List.getElem?_cons_succ] at y0 y1 y2 y3 y4 y5 y6 y7 y8 y9
      clear hby HL9 HE2 HE3 HE4
      go_wp2_with fail
      refine HBY.out.mono ?_
      rintro e w10 ⟨AX, cX, X, rfl, hXB, hoX, hfX⟩
      have HBX := Lib.hid (below_fr_no HB9.out hfX HB9.out.size)
      have HOX := Lib.hid hoX
      have HFX := Lib.hid hfX
      have HXB := Lib.hid hXB
      have hbz := HBY9.out.fr hfX (fun h => h)
      clear hfX hoX hXB y0 y1 y2 y3 y4 y5 y6 y7 y8 y9
      have y0 := hbz.cell 0
      have y1 := hbz.cell 1
      have y2 := hbz.cell 2
      have y3 := hbz.cell 3
      have y4 := hbz.cell 4
      have y5 := hbz.cell 5
      have y6 := hbz.cell 6
      have y7 := hbz.cell 7
      have y8 := hbz.cell 8
      have y9 := hbz.cell 9
      simp only [List.getElem?_toArray, List.getElem?_cons_zero, List.getElem?_cons_succ] at y0 y1 y2 y3 y4 y5 y6 y7 y8 y9
      clear hbz
      go_wp2_with fail
      refine (HSB.out w10 AX cX X HBX.out HXB.out HOX.out).mono ?_
      rintro e w11 ⟨rfl, rfl⟩
      go_wp2_with fail
      refine (HRI.out _ HFX.out).mono ?_
      rintro e w12 ⟨rfl, hf12⟩
      have HB12 := Lib.hid (below_fr_no HBX.out hf12 HBX.out.size)
      go_wp2_with fail
      go_ret
      exact ⟨rfl, HB12.out⟩
theorem orderBack_w (v : Value) (x : Od × Value) (A : Option Addr) (c : Nat) (l : List UInt8) (w : World) (hv : v = x.1.val x.2 ∧ OdI w x.1 x.2) (rd : Rd w (Lt w.heap.size) 1 A l.length (bs l)) (lc : l.length ≤ c) (cm : c ≤ maxLen) :
    Calls Try.prog 5 #[v, .slice A l.length c] w (RetTrue w) := orderBack_walk v x.1 x.2 A c l w hv rd lc cm
end Go.Proofs.Ytlcbbkookjmnkaa
