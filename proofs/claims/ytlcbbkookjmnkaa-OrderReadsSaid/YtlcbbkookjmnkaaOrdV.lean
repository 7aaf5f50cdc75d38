/- The order, and the reply, of any bytes: the walk. -/
import Derived.Test.YtlcbbkookjmnkaaRefS
import Derived.Test.YtlcbbkookjmnkaaRefU
import Derived.Test.YtlcbbkookjmnkaaOrdI
import Derived.Test.YtlcbbkookjmnkaaRefO1
namespace Go.Proofs.Ytlcbbkookjmnkaa
open Go.RowKit Go.My Go.Maps
set_option linter.unusedSimpArgs false
set_option linter.unusedVariables false
attribute [local go_sem ↓] Go.wp_at_zero Go.wp_at_succ

theorem below_lt {B : Nat} {w w' : World} (h : Below B w w') (hB : B = w.heap.size) : ∀ k, Lt B k → k < w'.heap.size := fun k hk => by
  have h1 := h.size
  have h2 : k < B := hk
  omega
set_option maxRecDepth 100000 in
set_option maxHeartbeats 2000000 in
theorem orderReads_walk (A : Option Addr) (c : Nat) (l : List UInt8) (w : World) (rd : Rd w (Lt w.heap.size) 1 A l.length (bs l)) (lc : l.length ≤ c) (cm : c ≤ maxLen) :
    Calls Try.prog 4 #[.slice A l.length c] w (RetTrue w) := by
  have hBl : (l.take (min (l.length : Int) 300).toNat).length = (min (l.length : Int) 300).toNat := by rw [List.length_take]; omega
  have rdB : Rd w (Lt w.heap.size) 1 A (min (l.length : Int) 300).toNat (bs (l.take (min (l.length : Int) 300).toNat)) := by
    have h := rd.take (k := (min (l.length : Int) 300).toNat) (by omega)
    rw [bs_take]
    simpa using h
  have hBn : (min (l.length : Int) 300).toNat ≤ 300 := by omega
  have hBc : (min (l.length : Int) 300).toNat ≤ c := by omega
  generalize l.take (min (l.length : Int) 300).toNat = B at *
  have HMN : Hid (0 ≤ min (l.length : Int) 300 ∧ min (l.length : Int) 300 ≤ (c : Int)) := ⟨by omega, by omega⟩
  have HRD : Hid (∀ W, Below w.heap.size w W → Calls Try.prog 21 #[.slice A (min (l.length : Int) 300).toNat c] W (RetOd (readO B) (readE B) W)) := fun W hW =>
    oread_any _ A _ c B W hBl (rdB.below hW fun _ h => h) (by omega)
  have HRF : Hid (∀ W, Below w.heap.size w W → Calls Try.prog 22 #[.slice A (min (l.length : Int) 300).toNat c] W (RetOd (readO B) (readE B) W)) := fun W hW =>
    refread_any _ A _ c B W hBl (rdB.below hW fun _ h => h) (below_lt hW rfl) hBc cm (by omega)
  have HTD : Hid (∀ W, Below w.heap.size w W → Calls Try.prog 23 #[.slice A (min (l.length : Int) 300).toNat c] W fun e w' => e = .returned (.tuple #[(readR B).val, .int .i64 (readRE B)]) ∧ Fr No W w') := fun W hW =>
    oreadt_any _ A _ c B W hBl (rdB.below hW fun _ h => h) (by omega)
  have HTF : Hid (∀ W, Below w.heap.size w W → Calls Try.prog 24 #[.slice A (min (l.length : Int) 300).toNat c] W fun e w' => e = .returned (.tuple #[(readR B).val, .int .i64 (readRE B)]) ∧ Fr No W w') := fun W hW =>
    refreadt_any _ A _ c B W hBl (rdB.below hW fun _ h => h) (below_lt hW rfl) hBc cm (by omega)
  have HOK := Lib.hid (read_ok B).2
  clear rdB rd hBl hBn hBc lc cm
  generalize readE B = E at *
  generalize readRE B = E2 at *
  generalize readO B = o at *
  generalize readR B = rp at *
  obtain ⟨cl, sq, kd, acct, peer, sum, L, per, hold, note⟩ := o
  obtain ⟨re, rh, rs, rn⟩ := rp
  unfold Rp.val at HTD HTF
  simp only at HTD HTF HOK
  go_enter Try.func4, Try.ntmps4
  go_wp2_with fail
  refine (lives6 _).mono ?_
  rintro e w1 ⟨rfl, hb1⟩
  have HB1 := Lib.hid hb1
  have hmn := HMN.out
  clear hb1
  go_wp2_with fail
  refine (HRD.out _ HB1.out).mono ?_
  rintro e w2 ⟨v2, rfl, ho2, hf2⟩
  obtain ⟨A2, c2, rfl, _, _⟩ := ho2.form
  unfold Od.val Od.cs
  simp only at ho2 ⊢
  go_upto_region 5 with (fail)
  have hb3 := Blk.new w2 26 #[.int .i64 cl, .int .i64 sq, .int .i64 kd, .string acct, .string peer, .int .i64 sum, .slice A2 L.length c2, .int .i64 per, .int .i64 hold, .string note]
  have hf3 : Fr No w2 (w2.alloc (.cells #[.int .i64 cl, .int .i64 sq, .int .i64 kd, .string acct, .string peer, .int .i64 sum, .slice A2 L.length c2, .int .i64 per, .int .i64 hold, .string note] 26)) := (Fr.refl _ _).alloc _
  generalize hw3 : w2.alloc (.cells #[.int .i64 cl, .int .i64 sq, .int .i64 kd, .string acct, .string peer, .int .i64 sum, .slice A2 L.length c2, .int .i64 per, .int .i64 hold, .string note] 26) = w3 at *
  generalize hg3 : w2.heap.size = b3 at *
  have HX3 := Lib.hid hb3
  have HO3 := Lib.hid (ho2.fr hf3 (fun _ _ h => h))
  have HF3 : Hid (Fr No w1 w3) := hf2.trans hf3
  have HB3 := Lib.hid (below_fr_no HB1.out HF3.out HB1.out.size)
  clear hb3 hf3 hw3 hg3 ho2 hf2
  go_wp2_with fail
  refine (HRF.out _ HB3.out).mono ?_
  rintro e w4 ⟨v4, rfl, ho4, hf4⟩
  obtain ⟨A4, c4, rfl, _, _⟩ := ho4.form
  unfold Od.val Od.cs
  simp only at ho4 ⊢
  go_upto_region 6 with (fail)
  have hb5 := Blk.new w4 26 #[.int .i64 cl, .int .i64 sq, .int .i64 kd, .string acct, .string peer, .int .i64 sum, .slice A4 L.length c4, .int .i64 per, .int .i64 hold, .string note]
  have hf5 : Fr No w4 (w4.alloc (.cells #[.int .i64 cl, .int .i64 sq, .int .i64 kd, .string acct, .string peer, .int .i64 sum, .slice A4 L.length c4, .int .i64 per, .int .i64 hold, .string note] 26)) := (Fr.refl _ _).alloc _
  generalize hw5 : w4.alloc (.cells #[.int .i64 cl, .int .i64 sq, .int .i64 kd, .string acct, .string peer, .int .i64 sum, .slice A4 L.length c4, .int .i64 per, .int .i64 hold, .string note] 26) = w5 at *
  generalize hg5 : w4.heap.size = b5 at *
  have HX5 := Lib.hid hb5
  have HO5 := Lib.hid (ho4.fr hf5 (fun _ _ h => h))
  have HF5 : Hid (Fr No w3 w5) := hf4.trans hf5
  have HB5 := Lib.hid (below_fr_no HB3.out HF5.out HB3.out.size)
  clear hb5 hf5 hw5 hg5 ho4 hf4
  go_wp2_with fail
  refine (HTD.out _ HB5.out).mono ?_
  rintro e w6 ⟨rfl, hf⟩
  go_upto_region 7 with (fail)
  have hb7 := Blk.new w6 29 #[.int .i64 re, .int .i64 rh, .int .i64 rs, .int .i64 rn]
  have hf7 : Fr No w6 (w6.alloc (.cells #[.int .i64 re, .int .i64 rh, .int .i64 rs, .int .i64 rn] 29)) := (Fr.refl _ _).alloc _
  generalize hw7 : w6.alloc (.cells #[.int .i64 re, .int .i64 rh, .int .i64 rs, .int .i64 rn] 29) = w7 at *
  generalize hg7 : w6.heap.size = b7 at *
  have HX7 := Lib.hid hb7
  have HF7 : Hid (Fr No w5 w7) := hf.trans hf7
  have HB7 := Lib.hid (below_fr_no HB5.out HF7.out HB5.out.size)
  clear hb7 hf7 hw7 hg7 hf
  go_wp2_with fail
  refine (HTF.out _ HB7.out).mono ?_
  rintro e w8 ⟨rfl, hf⟩
  go_upto_region 8 with (fail)
  have hb9 := Blk.new w8 29 #[.int .i64 re, .int .i64 rh, .int .i64 rs, .int .i64 rn]
  have hf9 : Fr No w8 (w8.alloc (.cells #[.int .i64 re, .int .i64 rh, .int .i64 rs, .int .i64 rn] 29)) := (Fr.refl _ _).alloc _
  generalize hw9 : w8.alloc (.cells #[.int .i64 re, .int .i64 rh, .int .i64 rs, .int .i64 rn] 29) = w9 at *
  generalize hg9 : w8.heap.size = b9 at *
  have HX9 := Lib.hid hb9
  have HF9 : Hid (Fr No w7 w9) := hf.trans hf9
  have HB9 := Lib.hid (below_fr_no HB7.out HF9.out HB7.out.size)
  clear hb9 hf9 hw9 hg9 hf
  have hf59 := HF7.out.trans HF9.out
  have hf39 := HF5.out.trans hf59
  have hx3 := HX3.out.fr hf39 (fun h => h)
  have hx5 := HX5.out.fr hf59 (fun h => h)
  have hx7 := HX7.out.fr HF9.out (fun h => h)
  have ho3 := HO3.out.fr hf39 (fun _ _ h => h)
  have ho5 := HO5.out.fr hf59 (fun _ _ h => h)
  obtain ⟨F3, hl3⟩ := LgS.of_own (L := L) ho3 HOK.out
  obtain ⟨F5, hl5⟩ := LgS.of_own (L := L) ho5 HOK.out
  have heq : eqO ⟨cl, sq, kd, acct, peer, sum, L, per, hold, note⟩ ⟨cl, sq, kd, acct, peer, sum, L, per, hold, note⟩ = true := (eqO_iff _ _).2 rfl
  have HS1 : Hid (∀ W, Fr No w9 W → Calls Try.prog 25 #[Od.val ⟨cl, sq, kd, acct, peer, sum, L, per, hold, note⟩ (.slice A2 L.length c2), Od.val ⟨cl, sq, kd, acct, peer, sum, L, per, hold, note⟩ (.slice A4 L.length c4)] W fun e w' => e = .returned (.bool true) ∧ Fr No W w') := fun W hW => by
    have h := osame_any F3 F5 ⟨cl, sq, kd, acct, peer, sum, L, per, hold, note⟩ ⟨cl, sq, kd, acct, peer, sum, L, per, hold, note⟩ _ _ W (hl3.no hW) (hl5.no hW)
    rw [heq] at h
    exact h
  have HS2 : Hid (∀ W, Fr No w9 W → Calls Try.prog 26 #[Od.val ⟨cl, sq, kd, acct, peer, sum, L, per, hold, note⟩ (.slice A2 L.length c2), Od.val ⟨cl, sq, kd, acct, peer, sum, L, per, hold, note⟩ (.slice A4 L.length c4)] W fun e w' => e = .returned (.bool true) ∧ Fr No W w') := fun W hW => by
    have h := refsameO_any F3 F5 ⟨cl, sq, kd, acct, peer, sum, L, per, hold, note⟩ ⟨cl, sq, kd, acct, peer, sum, L, per, hold, note⟩ _ _ W (hl3.no hW) (hl5.no hW)
    rw [heq] at h
    exact h
  unfold Od.val Od.cs at HS1 HS2
  simp only at HS1 HS2
  have HX39 := Lib.hid hx3
  have HX59 := Lib.hid hx5
  have HX79 := Lib.hid hx7
  have p0 := hx3.cell 0
  have p1 := hx3.cell 1
  have p2 := hx3.cell 2
  have p3 := hx3.cell 3
  have p4 := hx3.cell 4
  have p5 := hx3.cell 5
  have p6 := hx3.cell 6
  have p7 := hx3.cell 7
  have p8 := hx3.cell 8
  have p9 := hx3.cell 9
  simp only [List.getElem?_toArray, List.getElem?_cons_zero, List.getElem?_cons_succ] at p0 p1 p2 p3 p4 p5 p6 p7 p8 p9
  have q0 := hx5.cell 0
  have q1 := hx5.cell 1
  have q2 := hx5.cell 2
  have q3 := hx5.cell 3
  have q4 := hx5.cell 4
  have q5 := hx5.cell 5
  have q6 := hx5.cell 6
  have q7 := hx5.cell 7
  have q8 := hx5.cell 8
  have q9 := hx5.cell 9
  simp only [List.getElem?_toArray, List.getElem?_cons_zero, List.getElem?_cons_succ] at q0 q1 q2 q3 q4 q5 q6 q7 q8 q9
  clear hf59 hf39 hx3 hx5 hx7 ho3 ho5 hl3 hl5 heq HRD HRF HTD HTF HX3 HX5 HX7 HO3 HO5 HOK HF3 HF5 HF7 HF9 HB1 HB3 HB5 HB7
  go_wp2_with fail
  refine (HS1.out _ (Fr.refl _ _)).mono ?_
  rintro e w10 ⟨rfl, hf10⟩
  have HF10 := Lib.hid hf10
  have hx3 := HX39.out.fr hf10 (fun h => h)
  have hx5 := HX59.out.fr hf10 (fun h => h)
  clear p0 p1 p2 p3 p4 p5 p6 p7 p8 p9 q0 q1 q2 q3 q4 q5 q6 q7 q8 q9
  have p0 := hx3.cell 0
  have p1 := hx3.cell 1
  have p2 := hx3.cell 2
  have p3 := hx3.cell 3
  have p4 := hx3.cell 4
  have p5 := hx3.cell 5
  have p6 := hx3.cell 6
  have p7 := hx3.cell 7
  have p8 := hx3.cell 8
  have p9 := hx3.cell 9
  simp only [List.getElem?_toArray, List.getElem?_cons_zero, List.getElem?_cons_succ] at p0 p1 p2 p3 p4 p5 p6 p7 p8 p9
  have q0 := hx5.cell 0
  have q1 := hx5.cell 1
  have q2 := hx5.cell 2
  have q3 := hx5.cell 3
  have q4 := hx5.cell 4
  have q5 := hx5.cell 5
  have q6 := hx5.cell 6
  have q7 := hx5.cell 7
  have q8 := hx5.cell 8
  have q9 := hx5.cell 9
  simp only [List.getElem?_toArray, List.getElem?_cons_zero, List.getElem?_cons_succ] at q0 q1 q2 q3 q4 q5 q6 q7 q8 q9
  clear hx3 hx5 hf10
  go_wp2_with fail
  refine (HS2.out _ HF10.out).mono ?_
  rintro e w11 ⟨rfl, hf11⟩
  have HF11 := Lib.hid (HF10.out.trans hf11)
  have hx7 := HX79.out.fr HF11.out (fun h => h)
  have hx9 := HX9.out.fr HF11.out (fun h => h)
  clear p0 p1 p2 p3 p4 p5 p6 p7 p8 p9 q0 q1 q2 q3 q4 q5 q6 q7 q8 q9 hf11
  have p0 := hx7.cell 0
  have p1 := hx7.cell 1
  have p2 := hx7.cell 2
  have p3 := hx7.cell 3
  simp only [List.getElem?_toArray, List.getElem?_cons_zero, List.getElem?_cons_succ] at p0 p1 p2 p3
  have q0 := hx9.cell 0
  have q1 := hx9.cell 1
  have q2 := hx9.cell 2
  have q3 := hx9.cell 3
  simp only [List.getElem?_toArray, List.getElem?_cons_zero, List.getElem?_cons_succ] at q0 q1 q2 q3
  clear hx7 hx9
  have HEND := Lib.hid (below_fr_no HB9.out HF11.out HB9.out.size)
  go_wp2
  go_ret
  exact ⟨rfl, HEND.out⟩
end Go.Proofs.Ytlcbbkookjmnkaa
