/- HoldNil's walk. -/
import Derived.Test.YtcgonkcgdenmdaaHoldS5
import Derived.Test.YtcgonkcgdenmdaaIn
import Derived.Deep.RegionHeld3
import Derived.Deep.DrawnRows
namespace Go.Proofs.Ytcgonkcgdenmdaa
open Go.RowKit Go.My Go.Maps
set_option linter.unusedSimpArgs false
set_option linter.unusedVariables false
attribute [local go_sem ↓] Go.wp_at_zero Go.wp_at_succ

set_option maxRecDepth 100000 in
set_option maxHeartbeats 2000000 in
theorem holdNil_walk (v : Value) (o : OpH) (w : World) (rd : v = o.val ∧ o.ok) : Calls Try.prog 5 #[v] w (RetTrue w) := by
  obtain ⟨rfl, ho⟩ := rd
  obtain ⟨k, n, s, t, x⟩ := o
  have hk3 : Hid (wrap64 ((IntKind.u64.wrap k).tmod 3) = (k % 18446744073709551616) % 3) := by
    show _ = _
    rw [IntKind.wrap_u64]
    have e2 : (k % 18446744073709551616).tmod 3 = (k % 18446744073709551616) % 3 := by
      rw [Int.tmod_eq_emod_of_nonneg (by omega)]
    rw [e2]
    exact IntWalk.wrap64_in _ ⟨by omega, by omega⟩
  have hkk : Hid (kindH ((k % 18446744073709551616) % 3) ≠ 3) := by show _ ≠ _; unfold kindH; omega
  generalize (k % 18446744073709551616) % 3 = k3 at *
  have HD := Lib.hid fun c W => doesH_nil c ⟨k3, n, s, t, x⟩ W hkk.out
  have HDC := Lib.hid fun a W => doesH_nilC a ⟨k3, n, s, t, x⟩ W hkk.out
  unfold OpH.val at *
  simp only at *
  have HBX := Lib.hid (Blk.new w 38 #[.int .i64 k, .int .i64 n, .string s, .string t, .int .i64 x])
  have HNEW := Lib.hid (fun W => newH_any W)
  clear ho
  go_enter Try.func5, Try.ntmps5
  go_wp2_with fail
  refine (lives8 _).mono ?_
  rintro e w1 ⟨rfl, hb1⟩
  have hbx1 := HBX.out.below hb1 (by simp)
  go_wp2_with fail
  refine (begin_any _).mono ?_
  rintro e w2 ⟨p, m, q, rfl, hc2, -, hf2, -, -, -⟩
  have hbx2 := hbx1.fr hf2 (fun h => h)
  have HB : Hid (∀ W, Fr (At1 w.heap.size) w2 W → RetTrue w (.returned (.bool true)) W) := fun W hW => ⟨rfl, by
    have h1 : Below w.heap.size w w1 := ((Below.refl _ _).alloc (Nat.le_refl _) _).trans (hb1.mono (by simp))
    have h2 := below_fr_no h1 hf2 h1.size
    exact below_fr h2 hW h2.size (fun i hi => by have : i = w.heap.size := hi; omega)⟩
  have c0 := hbx2.cell 0
  have f0 := hbx2.frozen 0
  simp only [List.getElem?_toArray, List.getElem?_cons_zero, List.getElem?_cons_succ] at c0
  have hlt2 := hbx2.lt
  have HBX2 := Lib.hid hbx2
  clear hb1 hbx1 hc2 hf2 hbx2
  have HW3 : Hid (Fr (At1 w.heap.size) w2 (w2.setCell ⟨w.heap.size, 0, none⟩ (.int .i64 k3))) := fr_set w2 w.heap.size 0 _
  have HX3 : Hid (Blk (w2.setCell ⟨w.heap.size, 0, none⟩ (.int .i64 k3)) w.heap.size 38 #[.int .i64 k3, .int .i64 n, .string s, .string t, .int .i64 x]) := HBX2.out.set_ 0 (.int .i64 k3)
  go_wp2
  rw [hk3.out]
  generalize (w2.setCell ⟨w.heap.size, 0, none⟩ (.int .i64 k3)) = w3 at *
  have HCELL : Hid (∀ W, Fr No w3 W → W.cell? ⟨w.heap.size, 0, none⟩ = some (.int .i64 k3) ∧ W.cell? ⟨w.heap.size, 1, none⟩ = some (.int .i64 n) ∧ W.cell? ⟨w.heap.size, 2, none⟩ = some (.string s) ∧ W.cell? ⟨w.heap.size, 3, none⟩ = some (.string t) ∧ W.cell? ⟨w.heap.size, 4, none⟩ = some (.int .i64 x)) := fun W hW => by
    have h := HX3.out.fr hW (fun h => h)
    exact ⟨h.cell 0, h.cell 1, h.cell 2, h.cell 3, h.cell 4⟩
  have hE : Hid (∀ W, Fr No w3 W → RetTrue w (.returned (.bool true)) W) := fun W hW => HB.out _ (HW3.out.trans (hW.mono fun _ _ h => False.elim h))
  obtain ⟨d0, d1, d2, d3, d4⟩ := HCELL.out _ (Fr.refl No w3)
  clear c0 f0 hlt2
  have HAN : Hid (∀ W, Calls Try.prog 12 #[.pointer none] W fun e w' => e = .returned (.slice none 0 0) ∧ Fr No W w') := fun W => (allH_nil W).mono fun e w' h => ⟨h.1, by rw [h.2]; exact Fr.refl _ _⟩
  have HON : Hid (∀ s W, Calls Try.prog 15 #[.pointer none, .string s] W fun e w' => e = .returned (.slice none 0 0) ∧ Fr No W w') := fun s W => ofH_nil s W
  have HCN : Hid (∀ W, Calls Try.prog 18 #[.pointer none] W fun e w' => e = .returned (.pointer none) ∧ Fr No W w') := fun W => (copyH_nil W).mono fun e w' h => ⟨h.1, by rw [h.2]; exact Fr.refl _ _⟩
  have HCX : Hid (∀ W, Fr No w3 W → Fr No w3 W ∧ W.cell? ⟨w.heap.size, 0, none⟩ = some (.int .i64 k3) ∧ W.cell? ⟨w.heap.size, 1, none⟩ = some (.int .i64 n) ∧ W.cell? ⟨w.heap.size, 2, none⟩ = some (.string s) ∧ W.cell? ⟨w.heap.size, 3, none⟩ = some (.string t) ∧ W.cell? ⟨w.heap.size, 4, none⟩ = some (.int .i64 x)) := fun W hW => ⟨hW, HCELL.out W hW⟩
  have hw1 : Fr No w3 w3.drew := (Fr.refl No w3).drew
  clear d0 d1 d2 d3 d4
  go_region_held3 (fun W => Fr No w3 W ∧ W.cell? ⟨w.heap.size, 0, none⟩ = some (.int .i64 k3) ∧ W.cell? ⟨w.heap.size, 1, none⟩ = some (.int .i64 n) ∧ W.cell? ⟨w.heap.size, 2, none⟩ = some (.string s) ∧ W.cell? ⟨w.heap.size, 3, none⟩ = some (.string t) ∧ W.cell? ⟨w.heap.size, 4, none⟩ = some (.int .i64 x))
    (exact HCX.out _ (by assumption))
    (first
      | (go_at_call 13; (with_reducible refine (HD.out _ _).mono ?_); rintro e w4 ⟨rfl, hf4⟩; have hg4 := (fun h => Fr.trans (S := No) (a := w3) h hf4) (by first | assumption | (go_split_ands; assumption)))
      | (go_at_call 9; (with_reducible refine (HNEW.out _).mono ?_); rintro e w5 ⟨ph, mh, rfl, _, hf5, _, _⟩; have hg5 := (fun h => Fr.trans (S := No) (a := w3) h hf5) (by first | assumption | (go_split_ands; assumption)))
      | (go_at_call 13; (with_reducible refine (HDC.out _ _).mono ?_); rintro e w6 ⟨rfl, hf6⟩; have hg6 := (fun h => Fr.trans (S := No) (a := w3) h hf6) (by first | assumption | (go_split_ands; assumption)))
      | (go_at_call 12; (with_reducible refine (HAN.out _).mono ?_); rintro e w7 ⟨rfl, hf7⟩; have hg7 := (fun h => Fr.trans (S := No) (a := w3) h hf7) (by first | assumption | (go_split_ands; assumption)))
      | (go_at_call 15; (with_reducible refine (HON.out _ _).mono ?_); rintro e w8 ⟨rfl, hf8⟩; have hg8 := (fun h => Fr.trans (S := No) (a := w3) h hf8) (by first | assumption | (go_split_ands; assumption)))
      | (go_at_call 18; (with_reducible refine (HCN.out _).mono ?_); rintro e w9 ⟨rfl, hf9⟩; have hg9 := (fun h => Fr.trans (S := No) (a := w3) h hf9) (by first | assumption | (go_split_ands; assumption))))
  all_goals
    go_wp2
    go_ret
    exact hE.out _ (by first | assumption | (go_split_ands; assumption))
end Go.Proofs.Ytcgonkcgdenmdaa
