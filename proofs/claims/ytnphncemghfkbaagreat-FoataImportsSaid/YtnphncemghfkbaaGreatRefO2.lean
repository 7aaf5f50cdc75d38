/- What an order of a Kind may have. -/
import Derived.Test.YtnphncemghfkbaaGreatQ05
import Derived.Deep.RegionHeld3
import Derived.Deep.DrawnRows
namespace Go.Proofs.YtnphncemghfkbaaGreat
open Go.RowKit Go.My Go.Maps
set_option linter.unusedSimpArgs false
set_option linter.unusedVariables false
attribute [local go_sem ↓] Go.wp_at_zero Go.wp_at_succ

def bareO (o : Od) : Od := ⟨o.cl, o.sq, o.kd, if o.kd ≠ 2 ∧ o.kd ≠ 6 then o.acct else ⟨#[]⟩, if o.kd = 4 then o.peer else ⟨#[]⟩, if o.kd = 1 ∨ o.kd = 3 ∨ o.kd = 4 then o.sum else 0, if o.kd = 2 then o.legs else [], if o.kd = 2 ∨ o.kd = 4 ∨ o.kd = 6 then o.per else 0, if o.kd = 4 ∨ o.kd = 5 then o.hold else 0, if o.kd = 2 then o.note else ⟨#[]⟩⟩
def bareV (k : Int) (v : Value) : Value := if k = 2 then v else .slice none 0 0
set_option maxRecDepth 100000 in
set_option maxHeartbeats 8000000 in
theorem bare_1 (cl sq : Int) (acct peer : ByteArray) (sum : Int) (vA : Option Addr) (vn vc : Nat) (per hold : Int) (note : ByteArray) (w : World) :
    Calls Tryz.prog 92 #[.agg #[.int .i64 cl, .int .i64 sq, .int .i64 1, .string acct, .string peer, .int .i64 sum, .slice vA vn vc, .int .i64 per, .int .i64 hold, .string note]] w fun e w' => e = .returned (.agg #[.int .i64 cl, .int .i64 sq, .int .i64 1, .string acct, .string ⟨#[]⟩, .int .i64 sum, .slice none 0 0, .int .i64 0, .int .i64 0, .string ⟨#[]⟩]) ∧ Fr No w w' := by
  have hb := Blk.new w 47 #[.int .i64 cl, .int .i64 sq, .int .i64 1, .string acct, .string peer, .int .i64 sum, .slice vA vn vc, .int .i64 per, .int .i64 hold, .string note]
  go_enter Tryz.func92, Tryz.ntmps92
  go_wp2
  have h1 := (Blk.new (w.alloc (.cells #[.int .i64 cl, .int .i64 sq, .int .i64 1, .string acct, .string peer, .int .i64 sum, .slice vA vn vc, .int .i64 per, .int .i64 hold, .string note] 47)) 47 #[.int .i64 cl, .int .i64 sq, .int .i64 1, .string acct, .string ⟨#[]⟩, .int .i64 sum, .slice none 0 0, .int .i64 0, .int .i64 0, .string ⟨#[]⟩]).alloc (.cells #[.int .i64 cl, .int .i64 sq, .int .i64 1, .string acct, .string ⟨#[]⟩, .int .i64 sum, .slice none 0 0, .int .i64 0, .int .i64 0, .string ⟨#[]⟩] 47)
  rw [World.size_alloc] at h1
  have hf : Fr No w (((w.alloc (.cells #[.int .i64 cl, .int .i64 sq, .int .i64 1, .string acct, .string peer, .int .i64 sum, .slice vA vn vc, .int .i64 per, .int .i64 hold, .string note] 47)).alloc (.cells #[.int .i64 cl, .int .i64 sq, .int .i64 1, .string acct, .string ⟨#[]⟩, .int .i64 sum, .slice none 0 0, .int .i64 0, .int .i64 0, .string ⟨#[]⟩] 47)).alloc (.cells #[.int .i64 cl, .int .i64 sq, .int .i64 1, .string acct, .string ⟨#[]⟩, .int .i64 sum, .slice none 0 0, .int .i64 0, .int .i64 0, .string ⟨#[]⟩] 47)) := (((Fr.refl _ _).alloc _).alloc _).alloc _
  generalize (((w.alloc (.cells #[.int .i64 cl, .int .i64 sq, .int .i64 1, .string acct, .string peer, .int .i64 sum, .slice vA vn vc, .int .i64 per, .int .i64 hold, .string note] 47)).alloc (.cells #[.int .i64 cl, .int .i64 sq, .int .i64 1, .string acct, .string ⟨#[]⟩, .int .i64 sum, .slice none 0 0, .int .i64 0, .int .i64 0, .string ⟨#[]⟩] 47)).alloc (.cells #[.int .i64 cl, .int .i64 sq, .int .i64 1, .string acct, .string ⟨#[]⟩, .int .i64 sum, .slice none 0 0, .int .i64 0, .int .i64 0, .string ⟨#[]⟩] 47)) = w4 at *
  have d0 := h1.cell 0
  have d1 := h1.cell 1
  have d2 := h1.cell 2
  have d3 := h1.cell 3
  have d4 := h1.cell 4
  have d5 := h1.cell 5
  have d6 := h1.cell 6
  have d7 := h1.cell 7
  have d8 := h1.cell 8
  have d9 := h1.cell 9
  simp only [List.getElem?_toArray, List.getElem?_cons_zero, List.getElem?_cons_succ] at d0 d1 d2 d3 d4 d5 d6 d7 d8 d9
  refine bodyPost_ret (v := .agg #[.int .i64 cl, .int .i64 sq, .int .i64 1, .string acct, .string ⟨#[]⟩, .int .i64 sum, .slice none 0 0, .int .i64 0, .int .i64 0, .string ⟨#[]⟩]) (by simp [results, Tryz.results92, go_sem, d0, d1, d2, d3, d4, d5, d6, d7, d8, d9]) rfl ?_
  exact ⟨rfl, hf⟩
set_option maxRecDepth 100000 in
set_option maxHeartbeats 8000000 in
theorem bare_2 (cl sq : Int) (acct peer : ByteArray) (sum : Int) (vA : Option Addr) (vn vc : Nat) (per hold : Int) (note : ByteArray) (w : World) :
    Calls Tryz.prog 92 #[.agg #[.int .i64 cl, .int .i64 sq, .int .i64 2, .string acct, .string peer, .int .i64 sum, .slice vA vn vc, .int .i64 per, .int .i64 hold, .string note]] w fun e w' => e = .returned (.agg #[.int .i64 cl, .int .i64 sq, .int .i64 2, .string ⟨#[]⟩, .string ⟨#[]⟩, .int .i64 0, .slice vA vn vc, .int .i64 per, .int .i64 0, .string note]) ∧ Fr No w w' := by
  have hb := Blk.new w 47 #[.int .i64 cl, .int .i64 sq, .int .i64 2, .string acct, .string peer, .int .i64 sum, .slice vA vn vc, .int .i64 per, .int .i64 hold, .string note]
  go_enter Tryz.func92, Tryz.ntmps92
  go_wp2
  have h1 := (Blk.new (w.alloc (.cells #[.int .i64 cl, .int .i64 sq, .int .i64 2, .string acct, .string peer, .int .i64 sum, .slice vA vn vc, .int .i64 per, .int .i64 hold, .string note] 47)) 47 #[.int .i64 cl, .int .i64 sq, .int .i64 2, .string ⟨#[]⟩, .string ⟨#[]⟩, .int .i64 0, .slice vA vn vc, .int .i64 per, .int .i64 0, .string note]).alloc (.cells #[.int .i64 cl, .int .i64 sq, .int .i64 2, .string ⟨#[]⟩, .string ⟨#[]⟩, .int .i64 0, .slice vA vn vc, .int .i64 per, .int .i64 0, .string note] 47)
  rw [World.size_alloc] at h1
  have hf : Fr No w (((w.alloc (.cells #[.int .i64 cl, .int .i64 sq, .int .i64 2, .string acct, .string peer, .int .i64 sum, .slice vA vn vc, .int .i64 per, .int .i64 hold, .string note] 47)).alloc (.cells #[.int .i64 cl, .int .i64 sq, .int .i64 2, .string ⟨#[]⟩, .string ⟨#[]⟩, .int .i64 0, .slice vA vn vc, .int .i64 per, .int .i64 0, .string note] 47)).alloc (.cells #[.int .i64 cl, .int .i64 sq, .int .i64 2, .string ⟨#[]⟩, .string ⟨#[]⟩, .int .i64 0, .slice vA vn vc, .int .i64 per, .int .i64 0, .string note] 47)) := (((Fr.refl _ _).alloc _).alloc _).alloc _
  generalize (((w.alloc (.cells #[.int .i64 cl, .int .i64 sq, .int .i64 2, .string acct, .string peer, .int .i64 sum, .slice vA vn vc, .int .i64 per, .int .i64 hold, .string note] 47)).alloc (.cells #[.int .i64 cl, .int .i64 sq, .int .i64 2, .string ⟨#[]⟩, .string ⟨#[]⟩, .int .i64 0, .slice vA vn vc, .int .i64 per, .int .i64 0, .string note] 47)).alloc (.cells #[.int .i64 cl, .int .i64 sq, .int .i64 2, .string ⟨#[]⟩, .string ⟨#[]⟩, .int .i64 0, .slice vA vn vc, .int .i64 per, .int .i64 0, .string note] 47)) = w4 at *
  have d0 := h1.cell 0
  have d1 := h1.cell 1
  have d2 := h1.cell 2
  have d3 := h1.cell 3
  have d4 := h1.cell 4
  have d5 := h1.cell 5
  have d6 := h1.cell 6
  have d7 := h1.cell 7
  have d8 := h1.cell 8
  have d9 := h1.cell 9
  simp only [List.getElem?_toArray, List.getElem?_cons_zero, List.getElem?_cons_succ] at d0 d1 d2 d3 d4 d5 d6 d7 d8 d9
  refine bodyPost_ret (v := .agg #[.int .i64 cl, .int .i64 sq, .int .i64 2, .string ⟨#[]⟩, .string ⟨#[]⟩, .int .i64 0, .slice vA vn vc, .int .i64 per, .int .i64 0, .string note]) (by simp [results, Tryz.results92, go_sem, d0, d1, d2, d3, d4, d5, d6, d7, d8, d9]) rfl ?_
  exact ⟨rfl, hf⟩
set_option maxRecDepth 100000 in
set_option maxHeartbeats 8000000 in
theorem bare_3 (cl sq : Int) (acct peer : ByteArray) (sum : Int) (vA : Option Addr) (vn vc : Nat) (per hold : Int) (note : ByteArray) (w : World) :
    Calls Tryz.prog 92 #[.agg #[.int .i64 cl, .int .i64 sq, .int .i64 3, .string acct, .string peer, .int .i64 sum, .slice vA vn vc, .int .i64 per, .int .i64 hold, .string note]] w fun e w' => e = .returned (.agg #[.int .i64 cl, .int .i64 sq, .int .i64 3, .string acct, .string ⟨#[]⟩, .int .i64 sum, .slice none 0 0, .int .i64 0, .int .i64 0, .string ⟨#[]⟩]) ∧ Fr No w w' := by
  have hb := Blk.new w 47 #[.int .i64 cl, .int .i64 sq, .int .i64 3, .string acct, .string peer, .int .i64 sum, .slice vA vn vc, .int .i64 per, .int .i64 hold, .string note]
  go_enter Tryz.func92, Tryz.ntmps92
  go_wp2
  have h1 := (Blk.new (w.alloc (.cells #[.int .i64 cl, .int .i64 sq, .int .i64 3, .string acct, .string peer, .int .i64 sum, .slice vA vn vc, .int .i64 per, .int .i64 hold, .string note] 47)) 47 #[.int .i64 cl, .int .i64 sq, .int .i64 3, .string acct, .string ⟨#[]⟩, .int .i64 sum, .slice none 0 0, .int .i64 0, .int .i64 0, .string ⟨#[]⟩]).alloc (.cells #[.int .i64 cl, .int .i64 sq, .int .i64 3, .string acct, .string ⟨#[]⟩, .int .i64 sum, .slice none 0 0, .int .i64 0, .int .i64 0, .string ⟨#[]⟩] 47)
  rw [World.size_alloc] at h1
  have hf : Fr No w (((w.alloc (.cells #[.int .i64 cl, .int .i64 sq, .int .i64 3, .string acct, .string peer, .int .i64 sum, .slice vA vn vc, .int .i64 per, .int .i64 hold, .string note] 47)).alloc (.cells #[.int .i64 cl, .int .i64 sq, .int .i64 3, .string acct, .string ⟨#[]⟩, .int .i64 sum, .slice none 0 0, .int .i64 0, .int .i64 0, .string ⟨#[]⟩] 47)).alloc (.cells #[.int .i64 cl, .int .i64 sq, .int .i64 3, .string acct, .string ⟨#[]⟩, .int .i64 sum, .slice none 0 0, .int .i64 0, .int .i64 0, .string ⟨#[]⟩] 47)) := (((Fr.refl _ _).alloc _).alloc _).alloc _
  generalize (((w.alloc (.cells #[.int .i64 cl, .int .i64 sq, .int .i64 3, .string acct, .string peer, .int .i64 sum, .slice vA vn vc, .int .i64 per, .int .i64 hold, .string note] 47)).alloc (.cells #[.int .i64 cl, .int .i64 sq, .int .i64 3, .string acct, .string ⟨#[]⟩, .int .i64 sum, .slice none 0 0, .int .i64 0, .int .i64 0, .string ⟨#[]⟩] 47)).alloc (.cells #[.int .i64 cl, .int .i64 sq, .int .i64 3, .string acct, .string ⟨#[]⟩, .int .i64 sum, .slice none 0 0, .int .i64 0, .int .i64 0, .string ⟨#[]⟩] 47)) = w4 at *
  have d0 := h1.cell 0
  have d1 := h1.cell 1
  have d2 := h1.cell 2
  have d3 := h1.cell 3
  have d4 := h1.cell 4
  have d5 := h1.cell 5
  have d6 := h1.cell 6
  have d7 := h1.cell 7
  have d8 := h1.cell 8
  have d9 := h1.cell 9
  simp only [List.getElem?_toArray, List.getElem?_cons_zero, List.getElem?_cons_succ] at d0 d1 d2 d3 d4 d5 d6 d7 d8 d9
  refine bodyPost_ret (v := .agg #[.int .i64 cl, .int .i64 sq, .int .i64 3, .string acct, .string ⟨#[]⟩, .int .i64 sum, .slice none 0 0, .int .i64 0, .int .i64 0, .string ⟨#[]⟩]) (by simp [results, Tryz.results92, go_sem, d0, d1, d2, d3, d4, d5, d6, d7, d8, d9]) rfl ?_
  exact ⟨rfl, hf⟩
set_option maxRecDepth 100000 in
set_option maxHeartbeats 8000000 in
theorem bare_4 (cl sq : Int) (acct peer : ByteArray) (sum : Int) (vA : Option Addr) (vn vc : Nat) (per hold : Int) (note : ByteArray) (w : World) :
    Calls Tryz.prog 92 #[.agg #[.int .i64 cl, .int .i64 sq, .int .i64 4, .string acct, .string peer, .int .i64 sum, .slice vA vn vc, .int .i64 per, .int .i64 hold, .string note]] w fun e w' => e = .returned (.agg #[.int .i64 cl, .int .i64 sq, .int .i64 4, .string acct, .string peer, .int .i64 sum, .slice none 0 0, .int .i64 per, .int .i64 hold, .string ⟨#[]⟩]) ∧ Fr No w w' := by
  have hb := Blk.new w 47 #[.int .i64 cl, .int .i64 sq, .int .i64 4, .string acct, .string peer, .int .i64 sum, .slice vA vn vc, .int .i64 per, .int .i64 hold, .string note]
  go_enter Tryz.func92, Tryz.ntmps92
  go_wp2
  have h1 := (Blk.new (w.alloc (.cells #[.int .i64 cl, .int .i64 sq, .int .i64 4, .string acct, .string peer, .int .i64 sum, .slice vA vn vc, .int .i64 per, .int .i64 hold, .string note] 47)) 47 #[.int .i64 cl, .int .i64 sq, .int .i64 4, .string acct, .string peer, .int .i64 sum, .slice none 0 0, .int .i64 per, .int .i64 hold, .string ⟨#[]⟩]).alloc (.cells #[.int .i64 cl, .int .i64 sq, .int .i64 4, .string acct, .string peer, .int .i64 sum, .slice none 0 0, .int .i64 per, .int .i64 hold, .string ⟨#[]⟩] 47)
  rw [World.size_alloc] at h1
  have hf : Fr No w (((w.alloc (.cells #[.int .i64 cl, .int .i64 sq, .int .i64 4, .string acct, .string peer, .int .i64 sum, .slice vA vn vc, .int .i64 per, .int .i64 hold, .string note] 47)).alloc (.cells #[.int .i64 cl, .int .i64 sq, .int .i64 4, .string acct, .string peer, .int .i64 sum, .slice none 0 0, .int .i64 per, .int .i64 hold, .string ⟨#[]⟩] 47)).alloc (.cells #[.int .i64 cl, .int .i64 sq, .int .i64 4, .string acct, .string peer, .int .i64 sum, .slice none 0 0, .int .i64 per, .int .i64 hold, .string ⟨#[]⟩] 47)) := (((Fr.refl _ _).alloc _).alloc _).alloc _
  generalize (((w.alloc (.cells #[.int .i64 cl, .int .i64 sq, .int .i64 4, .string acct, .string peer, .int .i64 sum, .slice vA vn vc, .int .i64 per, .int .i64 hold, .string note] 47)).alloc (.cells #[.int .i64 cl, .int .i64 sq, .int .i64 4, .string acct, .string peer, .int .i64 sum, .slice none 0 0, .int .i64 per, .int .i64 hold, .string ⟨#[]⟩] 47)).alloc (.cells #[.int .i64 cl, .int .i64 sq, .int .i64 4, .string acct, .string peer, .int .i64 sum, .slice none 0 0, .int .i64 per, .int .i64 hold, .string ⟨#[]⟩] 47)) = w4 at *
  have d0 := h1.cell 0
  have d1 := h1.cell 1
  have d2 := h1.cell 2
  have d3 := h1.cell 3
  have d4 := h1.cell 4
  have d5 := h1.cell 5
  have d6 := h1.cell 6
  have d7 := h1.cell 7
  have d8 := h1.cell 8
  have d9 := h1.cell 9
  simp only [List.getElem?_toArray, List.getElem?_cons_zero, List.getElem?_cons_succ] at d0 d1 d2 d3 d4 d5 d6 d7 d8 d9
  refine bodyPost_ret (v := .agg #[.int .i64 cl, .int .i64 sq, .int .i64 4, .string acct, .string peer, .int .i64 sum, .slice none 0 0, .int .i64 per, .int .i64 hold, .string ⟨#[]⟩]) (by simp [results, Tryz.results92, go_sem, d0, d1, d2, d3, d4, d5, d6, d7, d8, d9]) rfl ?_
  exact ⟨rfl, hf⟩
set_option maxRecDepth 100000 in
set_option maxHeartbeats 8000000 in
theorem bare_5 (cl sq : Int) (acct peer : ByteArray) (sum : Int) (vA : Option Addr) (vn vc : Nat) (per hold : Int) (note : ByteArray) (w : World) :
    Calls Tryz.prog 92 #[.agg #[.int .i64 cl, .int .i64 sq, .int .i64 5, .string acct, .string peer, .int .i64 sum, .slice vA vn vc, .int .i64 per, .int .i64 hold, .string note]] w fun e w' => e = .returned (.agg #[.int .i64 cl, .int .i64 sq, .int .i64 5, .string acct, .string ⟨#[]⟩, .int .i64 0, .slice none 0 0, .int .i64 0, .int .i64 hold, .string ⟨#[]⟩]) ∧ Fr No w w' := by
  have hb := Blk.new w 47 #[.int .i64 cl, .int .i64 sq, .int .i64 5, .string acct, .string peer, .int .i64 sum, .slice vA vn vc, .int .i64 per, .int .i64 hold, .string note]
  go_enter Tryz.func92, Tryz.ntmps92
  go_wp2
  have h1 := (Blk.new (w.alloc (.cells #[.int .i64 cl, .int .i64 sq, .int .i64 5, .string acct, .string peer, .int .i64 sum, .slice vA vn vc, .int .i64 per, .int .i64 hold, .string note] 47)) 47 #[.int .i64 cl, .int .i64 sq, .int .i64 5, .string acct, .string ⟨#[]⟩, .int .i64 0, .slice none 0 0, .int .i64 0, .int .i64 hold, .string ⟨#[]⟩]).alloc (.cells #[.int .i64 cl, .int .i64 sq, .int .i64 5, .string acct, .string ⟨#[]⟩, .int .i64 0, .slice none 0 0, .int .i64 0, .int .i64 hold, .string ⟨#[]⟩] 47)
  rw [World.size_alloc] at h1
  have hf : Fr No w (((w.alloc (.cells #[.int .i64 cl, .int .i64 sq, .int .i64 5, .string acct, .string peer, .int .i64 sum, .slice vA vn vc, .int .i64 per, .int .i64 hold, .string note] 47)).alloc (.cells #[.int .i64 cl, .int .i64 sq, .int .i64 5, .string acct, .string ⟨#[]⟩, .int .i64 0, .slice none 0 0, .int .i64 0, .int .i64 hold, .string ⟨#[]⟩] 47)).alloc (.cells #[.int .i64 cl, .int .i64 sq, .int .i64 5, .string acct, .string ⟨#[]⟩, .int .i64 0, .slice none 0 0, .int .i64 0, .int .i64 hold, .string ⟨#[]⟩] 47)) := (((Fr.refl _ _).alloc _).alloc _).alloc _
  generalize (((w.alloc (.cells #[.int .i64 cl, .int .i64 sq, .int .i64 5, .string acct, .string peer, .int .i64 sum, .slice vA vn vc, .int .i64 per, .int .i64 hold, .string note] 47)).alloc (.cells #[.int .i64 cl, .int .i64 sq, .int .i64 5, .string acct, .string ⟨#[]⟩, .int .i64 0, .slice none 0 0, .int .i64 0, .int .i64 hold, .string ⟨#[]⟩] 47)).alloc (.cells #[.int .i64 cl, .int .i64 sq, .int .i64 5, .string acct, .string ⟨#[]⟩, .int .i64 0, .slice none 0 0, .int .i64 0, .int .i64 hold, .string ⟨#[]⟩] 47)) = w4 at *
  have d0 := h1.cell 0
  have d1 := h1.cell 1
  have d2 := h1.cell 2
  have d3 := h1.cell 3
  have d4 := h1.cell 4
  have d5 := h1.cell 5
  have d6 := h1.cell 6
  have d7 := h1.cell 7
  have d8 := h1.cell 8
  have d9 := h1.cell 9
  simp only [List.getElem?_toArray, List.getElem?_cons_zero, List.getElem?_cons_succ] at d0 d1 d2 d3 d4 d5 d6 d7 d8 d9
  refine bodyPost_ret (v := .agg #[.int .i64 cl, .int .i64 sq, .int .i64 5, .string acct, .string ⟨#[]⟩, .int .i64 0, .slice none 0 0, .int .i64 0, .int .i64 hold, .string ⟨#[]⟩]) (by simp [results, Tryz.results92, go_sem, d0, d1, d2, d3, d4, d5, d6, d7, d8, d9]) rfl ?_
  exact ⟨rfl, hf⟩
set_option maxRecDepth 100000 in
set_option maxHeartbeats 8000000 in
theorem bare_6 (cl sq : Int) (acct peer : ByteArray) (sum : Int) (vA : Option Addr) (vn vc : Nat) (per hold : Int) (note : ByteArray) (w : World) :
    Calls Tryz.prog 92 #[.agg #[.int .i64 cl, .int .i64 sq, .int .i64 6, .string acct, .string peer, .int .i64 sum, .slice vA vn vc, .int .i64 per, .int .i64 hold, .string note]] w fun e w' => e = .returned (.agg #[.int .i64 cl, .int .i64 sq, .int .i64 6, .string ⟨#[]⟩, .string ⟨#[]⟩, .int .i64 0, .slice none 0 0, .int .i64 per, .int .i64 0, .string ⟨#[]⟩]) ∧ Fr No w w' := by
  have hb := Blk.new w 47 #[.int .i64 cl, .int .i64 sq, .int .i64 6, .string acct, .string peer, .int .i64 sum, .slice vA vn vc, .int .i64 per, .int .i64 hold, .string note]
  go_enter Tryz.func92, Tryz.ntmps92
  go_wp2
  have h1 := (Blk.new (w.alloc (.cells #[.int .i64 cl, .int .i64 sq, .int .i64 6, .string acct, .string peer, .int .i64 sum, .slice vA vn vc, .int .i64 per, .int .i64 hold, .string note] 47)) 47 #[.int .i64 cl, .int .i64 sq, .int .i64 6, .string ⟨#[]⟩, .string ⟨#[]⟩, .int .i64 0, .slice none 0 0, .int .i64 per, .int .i64 0, .string ⟨#[]⟩]).alloc (.cells #[.int .i64 cl, .int .i64 sq, .int .i64 6, .string ⟨#[]⟩, .string ⟨#[]⟩, .int .i64 0, .slice none 0 0, .int .i64 per, .int .i64 0, .string ⟨#[]⟩] 47)
  rw [World.size_alloc] at h1
  have hf : Fr No w (((w.alloc (.cells #[.int .i64 cl, .int .i64 sq, .int .i64 6, .string acct, .string peer, .int .i64 sum, .slice vA vn vc, .int .i64 per, .int .i64 hold, .string note] 47)).alloc (.cells #[.int .i64 cl, .int .i64 sq, .int .i64 6, .string ⟨#[]⟩, .string ⟨#[]⟩, .int .i64 0, .slice none 0 0, .int .i64 per, .int .i64 0, .string ⟨#[]⟩] 47)).alloc (.cells #[.int .i64 cl, .int .i64 sq, .int .i64 6, .string ⟨#[]⟩, .string ⟨#[]⟩, .int .i64 0, .slice none 0 0, .int .i64 per, .int .i64 0, .string ⟨#[]⟩] 47)) := (((Fr.refl _ _).alloc _).alloc _).alloc _
  generalize (((w.alloc (.cells #[.int .i64 cl, .int .i64 sq, .int .i64 6, .string acct, .string peer, .int .i64 sum, .slice vA vn vc, .int .i64 per, .int .i64 hold, .string note] 47)).alloc (.cells #[.int .i64 cl, .int .i64 sq, .int .i64 6, .string ⟨#[]⟩, .string ⟨#[]⟩, .int .i64 0, .slice none 0 0, .int .i64 per, .int .i64 0, .string ⟨#[]⟩] 47)).alloc (.cells #[.int .i64 cl, .int .i64 sq, .int .i64 6, .string ⟨#[]⟩, .string ⟨#[]⟩, .int .i64 0, .slice none 0 0, .int .i64 per, .int .i64 0, .string ⟨#[]⟩] 47)) = w4 at *
  have d0 := h1.cell 0
  have d1 := h1.cell 1
  have d2 := h1.cell 2
  have d3 := h1.cell 3
  have d4 := h1.cell 4
  have d5 := h1.cell 5
  have d6 := h1.cell 6
  have d7 := h1.cell 7
  have d8 := h1.cell 8
  have d9 := h1.cell 9
  simp only [List.getElem?_toArray, List.getElem?_cons_zero, List.getElem?_cons_succ] at d0 d1 d2 d3 d4 d5 d6 d7 d8 d9
  refine bodyPost_ret (v := .agg #[.int .i64 cl, .int .i64 sq, .int .i64 6, .string ⟨#[]⟩, .string ⟨#[]⟩, .int .i64 0, .slice none 0 0, .int .i64 per, .int .i64 0, .string ⟨#[]⟩]) (by simp [results, Tryz.results92, go_sem, d0, d1, d2, d3, d4, d5, d6, d7, d8, d9]) rfl ?_
  exact ⟨rfl, hf⟩
set_option maxRecDepth 100000 in
set_option maxHeartbeats 8000000 in
theorem bare_7 (cl sq : Int) (acct peer : ByteArray) (sum : Int) (vA : Option Addr) (vn vc : Nat) (per hold : Int) (note : ByteArray) (w : World) :
    Calls Tryz.prog 92 #[.agg #[.int .i64 cl, .int .i64 sq, .int .i64 7, .string acct, .string peer, .int .i64 sum, .slice vA vn vc, .int .i64 per, .int .i64 hold, .string note]] w fun e w' => e = .returned (.agg #[.int .i64 cl, .int .i64 sq, .int .i64 7, .string acct, .string ⟨#[]⟩, .int .i64 0, .slice none 0 0, .int .i64 0, .int .i64 0, .string ⟨#[]⟩]) ∧ Fr No w w' := by
  have hb := Blk.new w 47 #[.int .i64 cl, .int .i64 sq, .int .i64 7, .string acct, .string peer, .int .i64 sum, .slice vA vn vc, .int .i64 per, .int .i64 hold, .string note]
  go_enter Tryz.func92, Tryz.ntmps92
  go_wp2
  have h1 := (Blk.new (w.alloc (.cells #[.int .i64 cl, .int .i64 sq, .int .i64 7, .string acct, .string peer, .int .i64 sum, .slice vA vn vc, .int .i64 per, .int .i64 hold, .string note] 47)) 47 #[.int .i64 cl, .int .i64 sq, .int .i64 7, .string acct, .string ⟨#[]⟩, .int .i64 0, .slice none 0 0, .int .i64 0, .int .i64 0, .string ⟨#[]⟩]).alloc (.cells #[.int .i64 cl, .int .i64 sq, .int .i64 7, .string acct, .string ⟨#[]⟩, .int .i64 0, .slice none 0 0, .int .i64 0, .int .i64 0, .string ⟨#[]⟩] 47)
  rw [World.size_alloc] at h1
  have hf : Fr No w (((w.alloc (.cells #[.int .i64 cl, .int .i64 sq, .int .i64 7, .string acct, .string peer, .int .i64 sum, .slice vA vn vc, .int .i64 per, .int .i64 hold, .string note] 47)).alloc (.cells #[.int .i64 cl, .int .i64 sq, .int .i64 7, .string acct, .string ⟨#[]⟩, .int .i64 0, .slice none 0 0, .int .i64 0, .int .i64 0, .string ⟨#[]⟩] 47)).alloc (.cells #[.int .i64 cl, .int .i64 sq, .int .i64 7, .string acct, .string ⟨#[]⟩, .int .i64 0, .slice none 0 0, .int .i64 0, .int .i64 0, .string ⟨#[]⟩] 47)) := (((Fr.refl _ _).alloc _).alloc _).alloc _
  generalize (((w.alloc (.cells #[.int .i64 cl, .int .i64 sq, .int .i64 7, .string acct, .string peer, .int .i64 sum, .slice vA vn vc, .int .i64 per, .int .i64 hold, .string note] 47)).alloc (.cells #[.int .i64 cl, .int .i64 sq, .int .i64 7, .string acct, .string ⟨#[]⟩, .int .i64 0, .slice none 0 0, .int .i64 0, .int .i64 0, .string ⟨#[]⟩] 47)).alloc (.cells #[.int .i64 cl, .int .i64 sq, .int .i64 7, .string acct, .string ⟨#[]⟩, .int .i64 0, .slice none 0 0, .int .i64 0, .int .i64 0, .string ⟨#[]⟩] 47)) = w4 at *
  have d0 := h1.cell 0
  have d1 := h1.cell 1
  have d2 := h1.cell 2
  have d3 := h1.cell 3
  have d4 := h1.cell 4
  have d5 := h1.cell 5
  have d6 := h1.cell 6
  have d7 := h1.cell 7
  have d8 := h1.cell 8
  have d9 := h1.cell 9
  simp only [List.getElem?_toArray, List.getElem?_cons_zero, List.getElem?_cons_succ] at d0 d1 d2 d3 d4 d5 d6 d7 d8 d9
  refine bodyPost_ret (v := .agg #[.int .i64 cl, .int .i64 sq, .int .i64 7, .string acct, .string ⟨#[]⟩, .int .i64 0, .slice none 0 0, .int .i64 0, .int .i64 0, .string ⟨#[]⟩]) (by simp [results, Tryz.results92, go_sem, d0, d1, d2, d3, d4, d5, d6, d7, d8, d9]) rfl ?_
  exact ⟨rfl, hf⟩
theorem bare_any (o : Od) (vA : Option Addr) (vn vc : Nat) (w : World) (hk : 1 ≤ o.kd ∧ o.kd ≤ 7) : Calls Tryz.prog 92 #[o.val (.slice vA vn vc)] w fun e w' => e = .returned ((bareO o).val (bareV o.kd (.slice vA vn vc))) ∧ Fr No w w' := by
  obtain ⟨cl, sq, kd, acct, peer, sum, legs, per, hold, note⟩ := o
  simp only at hk
  have hc : kd = 1 ∨ kd = 2 ∨ kd = 3 ∨ kd = 4 ∨ kd = 5 ∨ kd = 6 ∨ kd = 7 := by omega
  rcases hc with rfl | rfl | rfl | rfl | rfl | rfl | rfl
  · exact bare_1 cl sq acct peer sum vA vn vc per hold note w
  · exact bare_2 cl sq acct peer sum vA vn vc per hold note w
  · exact bare_3 cl sq acct peer sum vA vn vc per hold note w
  · exact bare_4 cl sq acct peer sum vA vn vc per hold note w
  · exact bare_5 cl sq acct peer sum vA vn vc per hold note w
  · exact bare_6 cl sq acct peer sum vA vn vc per hold note w
  · exact bare_7 cl sq acct peer sum vA vn vc per hold note w
end Go.Proofs.YtnphncemghfkbaaGreat
