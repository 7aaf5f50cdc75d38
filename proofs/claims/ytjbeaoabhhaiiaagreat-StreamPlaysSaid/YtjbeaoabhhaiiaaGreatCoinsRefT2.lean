/- Contracts of the document's own answers for coins: Total, Times, Share. -/
import Derived.Test.YtjbeaoabhhaiiaaGreatCoinsRefT
import Derived.Deep.DeepCutAuto
namespace Go.Proofs.YtjbeaoabhhaiiaaGreat
open Go.RowKit Go.My
set_option linter.unusedSimpArgs false
set_option linter.unusedVariables false

/-- the cells of a number of two halves -/
def wideC (x : Int) : Array Value := #[.int .i64 (wrap64 (x / 18446744073709551616)), .int .u64 (x % 18446744073709551616)]
theorem wideC_zero : wideC 0 = #[.int .i64 0, .int .u64 0] := by unfold wideC; simp [wrap64]
def TotRel2 (w : World) (l : List Int) (iv : Value) (wr : World) : Prop :=
  ∃ k : Nat, k ≤ l.length ∧ iv = .int .i64 k ∧ Blk wr w.heap.size 208 (wideC (total (l.take k))) ∧ Below w.heap.size w wr

set_option maxHeartbeats 4000000 in
theorem reftotal_any (A : Option Addr) (c : Nat) (l : List Int) (w : World) (hr : Rd w (Lt w.heap.size) 1 A l.length (is_ l)) (hI : ∀ x ∈ l, In64 x) (hl : l.length ≤ 1000000) :
    Calls Tryz.prog 124 #[.slice A l.length c] w fun e w' => e = .returned (two64 (total l)) ∧ Below w.heap.size w w' := by
  have HR := Lib.hid hr
  have HI := Lib.hid hI
  have HS := Lib.hid fun W => sumw_any (total l) W (by have := total_bound l hI; omega)
  unfold two64 at HS ⊢
  generalize sumV (total l) = v9 at *
  generalize ((sumN (total l) : Nat) : Int) = n9 at *
  clear hr hI
  go_enter Tryz.func124, Tryz.ntmps124
  go_wp2
  go_loopw [5] (fun iv wr => TotRel2 w l iv wr) (fun iv _ => l.length - (intOf iv).toNat)
  case atStart => exact ⟨0, Nat.zero_le _, rfl, by rw [show wideC (total (l.take 0)) = #[.int .i64 0, .int .u64 0] from wideC_zero]; exact Blk.new _ _ _, (Below.refl _ _).alloc (Nat.le_refl _) _⟩
  case round =>
    obtain ⟨k, hk, rfl, hblk, hbel⟩ := hrel
    obtain ⟨hi, lo, hW, hC⟩ : ∃ hi lo, wideV (total (l.take k)) = .agg #[.int .i64 hi, .int .u64 lo] ∧ wideC (total (l.take k)) = #[.int .i64 hi, .int .u64 lo] := ⟨_, _, rfl, rfl⟩
    rw [hC] at hblk
    have HBLK : Hid (∀ W, Below (w.heap.size + 1) wr W → W.cell? ⟨w.heap.size, 0, none⟩ = some (.int .i64 hi) ∧ W.cell? ⟨w.heap.size, 1, none⟩ = some (.int .u64 lo) ∧ W.frozen? ⟨w.heap.size, 0, none⟩ = false ∧ W.frozen? ⟨w.heap.size, 1, none⟩ = false ∧ Below w.heap.size w W ∧ Blk W w.heap.size 208 #[.int .i64 hi, .int .u64 lo]) := fun W hW => by
      have h := hblk.below hW (Nat.lt_succ_self _)
      exact ⟨h.cell 0, h.cell 1, h.frozen 0, h.frozen 1, hbel.trans (hW.mono (Nat.le_succ _)), h⟩
    have hszr : w.heap.size + 1 ≤ wr.heap.size := hblk.lt
    obtain ⟨d0, d1, f0, f1, _, _⟩ := HBLK.out wr (Below.refl _ _)
    obtain ⟨d0', d1', f0', f1', _, _⟩ := HBLK.out wr.drew (below_drewN (Below.refl _ _) 1)
    by_cases hlt : k < l.length
    · obtain ⟨ad, u, rfl, _, hx, hc⟩ := (HR.out.below hbel fun _ h => h).at_ hlt
      rw [is_get l k hlt] at hx
      injection hx with hx
      subst hx
      have htk : l.take (k + 1) = l.take k ++ [l[k]] := List.take_succ_eq_append_getElem hlt
      have hts : total (l.take (k + 1)) = total (l.take k) + l[k] := by rw [htk, total_append]; simp [total_cons, total_nil]
      have HX := HI.out l[k] (List.getElem_mem hlt)
      have hof := Lib.hid fun W => of_any l[k] W HX
      have hpl := Lib.hid fun W => plus_any (total (l.take k)) l[k] W
      rw [← hts, hW] at hpl
      obtain ⟨hi2, lo2, hW2, hC2⟩ : ∃ hi2 lo2, wideV (total (l.take (k + 1))) = .agg #[.int .i64 hi2, .int .u64 lo2] ∧ wideC (total (l.take (k + 1))) = #[.int .i64 hi2, .int .u64 lo2] := ⟨_, _, rfl, rfl⟩
      rw [hW2] at hpl
      have HC2 := Lib.hid hC2
      have hc' : wr.drew.cell? (ad.add k) = some (.int .i64 l[k]) := hc
      generalize wideV l[k] = vx at *
      generalize l[k] = x at *
      clear htk hts HX hW hC hW2 hC2 hblk hbel
      go_upto_region 5 with (fail)
      go_region_with (first
        | (go_at_call 149; refine (hof.out _).mono ?_; rintro e w2 ⟨rfl, hb2⟩; obtain ⟨e0, e1, g0, g1, hb2', hblk2⟩ := HBLK.out _ ((below_drewN (Below.refl _ _) 1).trans (hb2.mono (by exact hszr))))
        | (go_at_call 148; refine (hpl.out _).mono ?_; rintro e w3 ⟨rfl, hb3⟩; obtain ⟨a0, a1, b0, b1, hb3', hblk3⟩ := HBLK.out _ (((below_drewN (Below.refl _ _) 1).trans (hb2.mono (by exact hszr))).trans (hb3.mono (Nat.le_trans hszr hb2.size)))))
      all_goals
        go_wp2
        refine ⟨⟨k + 1, by omega, by go_num, ?_, (hb3'.setCell (Nat.le_refl _) _).setCell (Nat.le_refl _) _⟩, by simp [intOf]; omega⟩
        rw [HC2.out]
        exact (hblk3.set_ 0 (.int .i64 hi2)).set_ 1 (.int .u64 lo2)
    · obtain rfl : k = l.length := by omega
      rw [List.take_length] at hW
      rw [hW] at HS
      clear hW hC HBLK
      go_wp2_with (go_at_call 150; refine (HS.out _).mono ?_; rintro e w2 ⟨rfl, hb2⟩)
      go_ret2
      exact ⟨rfl, below_fresh hbel hb2 hbel.size⟩
end Go.Proofs.YtjbeaoabhhaiiaaGreat
