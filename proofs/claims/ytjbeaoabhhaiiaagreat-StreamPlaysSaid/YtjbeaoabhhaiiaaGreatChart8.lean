/- Contracts of package chart: a chart that is nil. -/
import Derived.Test.YtjbeaoabhhaiiaaGreatChart7
namespace Go.Proofs.YtjbeaoabhhaiiaaGreat
open Go.RowKit Go.My Go.Maps
set_option linter.unusedSimpArgs false
set_option linter.unusedVariables false
attribute [local go_sem ↓] Go.wp_at_zero Go.wp_at_succ

theorem change_nil (s f : Value) (w : World) : Calls Tryz.prog 155 #[.pointer none, s, f] w fun e w' => e = .returned (.int .i64 1) ∧ w' = w := by
  go_enter Tryz.func155, Tryz.ntmps155
  go_wp2
  go_ret
  exact ⟨rfl, rfl⟩
theorem open_nil (s l : Value) (w : World) : Calls Tryz.prog 103 #[.pointer none, s, l] w fun e w' => e = .returned (.int .i64 1) ∧ Fr No w w' := by
  go_enter Tryz.func103, Tryz.ntmps103
  go_wp2
  go_ret
  exact ⟨rfl, Fr.refl _ _⟩
theorem all_nil (w : World) : Calls Tryz.prog 50 #[.pointer none] w fun e w' => e = .returned (.slice none 0 0) ∧ w' = w := by
  go_enter Tryz.func50, Tryz.ntmps50
  go_wp2
  go_ret
  exact ⟨rfl, rfl⟩
theorem copy_nil (w : World) : Calls Tryz.prog 61 #[.pointer none] w fun e w' => e = .returned (.pointer none) ∧ w' = w := by
  go_enter Tryz.func61, Tryz.ntmps61
  go_wp2
  go_ret
  exact ⟨rfl, rfl⟩
theorem give_nil (s : ByteArray) (x : Int) (w : World) : Calls Tryz.prog 159 #[.pointer none, .string s, .int .i64 x] w fun e w' => e = .returned (.int .i64 1) ∧ Fr No w w' := by
  have HD := Lib.hid fun f W => change_nil (.string s) f W
  go_enter Tryz.func159, Tryz.ntmps159
  go_wp2_with (go_at_call 155; refine (HD.out _ _).mono ?_; rintro e w1 ⟨rfl, rfl⟩)
  go_ret
  exact ⟨rfl, (Fr.refl _ _).alloc _⟩
theorem aside_nil (s : ByteArray) (x : Int) (w : World) : Calls Tryz.prog 140 #[.pointer none, .string s, .int .i64 x] w fun e w' => e = .returned (.int .i64 1) ∧ Fr No w w' := by
  have HD := Lib.hid fun f W => change_nil (.string s) f W
  go_enter Tryz.func140, Tryz.ntmps140
  go_wp2_with (go_at_call 155; refine (HD.out _ _).mono ?_; rintro e w1 ⟨rfl, rfl⟩)
  go_ret
  exact ⟨rfl, (Fr.refl _ _).alloc _⟩

set_option maxRecDepth 100000 in
theorem get_nil (s : ByteArray) (w : World) : Calls Tryz.prog 136 #[.pointer none, .string s] w fun e w' => e = .returned (.tuple #[noA.val, .int .i64 1]) ∧ Fr No w w' := by
  have HD := Lib.hid fun f W => change_nil (.string s) f W
  go_enter Tryz.func136, Tryz.ntmps136
  go_wp2_with fail
  have hf : Fr No w ((w.alloc (.cells #[.string ⟨#[]⟩, .int .i64 0, .int .i64 0, .int .i64 0] 80)).alloc (.cells #[.string ⟨#[]⟩, .int .i64 0, .int .i64 0, .int .i64 0] 80)) := ((Fr.refl _ _).alloc _).alloc _
  have hb : AcB ((w.alloc (.cells #[.string ⟨#[]⟩, .int .i64 0, .int .i64 0, .int .i64 0] 80)).alloc (.cells #[.string ⟨#[]⟩, .int .i64 0, .int .i64 0, .int .i64 0] 80)) (w.heap.size + 1) ⟨[], 0, 0, 0⟩ := by
    have h1 := Blk.new (w.alloc (.cells #[.string ⟨#[]⟩, .int .i64 0, .int .i64 0, .int .i64 0] 80)) 80 #[.string ⟨#[]⟩, .int .i64 0, .int .i64 0, .int .i64 0]
    rw [World.size_alloc] at h1
    exact h1
  have hr : AcB ((w.alloc (.cells #[.string ⟨#[]⟩, .int .i64 0, .int .i64 0, .int .i64 0] 80)).alloc (.cells #[.string ⟨#[]⟩, .int .i64 0, .int .i64 0, .int .i64 0] 80)) w.heap.size ⟨[], 0, 0, 0⟩ :=
    Blk.fr (Blk.new w 80 #[.string ⟨#[]⟩, .int .i64 0, .int .i64 0, .int .i64 0]) ((Fr.refl No _).alloc _) (fun h => h)
  refine (HD.out _ _).mono ?_
  generalize ((w.alloc (.cells #[.string ⟨#[]⟩, .int .i64 0, .int .i64 0, .int .i64 0] 80)).alloc (.cells #[.string ⟨#[]⟩, .int .i64 0, .int .i64 0, .int .i64 0] 80)) = w1 at *
  rintro e w2 ⟨rfl, rfl⟩
  obtain ⟨c0, c1, c2, c3⟩ := acb_cells hb
  obtain ⟨d0, d1, d2, d3⟩ := acb_cells hr
  have f0 := hr.frozen 0
  have f1 := hr.frozen 1
  have f2 := hr.frozen 2
  have f3 := hr.frozen 3
  have hrl := hr.lt
  have HF := Lib.hid hf
  clear hb hr hf
  go_wp2
  have HW : Fr (At1 w.heap.size) w2 ((((w2.setCell ⟨w.heap.size, 0, none⟩ (.string ⟨#[]⟩)).setCell ⟨w.heap.size, 1, none⟩ (.int .i64 0)).setCell ⟨w.heap.size, 2, none⟩ (.int .i64 0)).setCell ⟨w.heap.size, 3, none⟩ (.int .i64 0)) :=
    Fr.setCell (S := At1 w.heap.size) (p := ⟨w.heap.size, 3, none⟩) (Fr.setCell (S := At1 w.heap.size) (p := ⟨w.heap.size, 2, none⟩) (Fr.setCell (S := At1 w.heap.size) (p := ⟨w.heap.size, 1, none⟩) (Fr.setCell (S := At1 w.heap.size) (p := ⟨w.heap.size, 0, none⟩) (Fr.refl _ _) (fun _ => rfl) _) (fun _ => rfl) _) (fun _ => rfl) _) (fun _ => rfl) _
  refine bodyPost_ret (v := .tuple #[.agg #[.string ⟨#[]⟩, .int .i64 0, .int .i64 0, .int .i64 0], .int .i64 1]) (by simp [results, Tryz.results136, go_sem, d0, d1, d2, d3, f0, f1, f2, f3]) rfl ?_
  refine ⟨rfl, HF.out.trans' HW fun i hi hlt => ?_⟩
  have : i = w.heap.size := hi
  omega
end Go.Proofs.YtjbeaoabhhaiiaaGreat
