/- The laws of package disk, as walks: DiskNil. -/
import Derived.Test.YtjfbpnhkdlbinaaDiskLaw4
namespace Go.Proofs.Ytjfbpnhkdlbinaa
open Go.RowKit Go.My Go.ChangeShapes Go.WideShapes
set_option linter.unusedSimpArgs false
set_option linter.unusedVariables false

theorem open_opv {H : Type} {enc : TypeId × Value → H} {W : World} {r : Reach} {b0 : Nat} {v : Value} {d : DataW H} {p : List MemPlace} (hv : Value.okWide Try.prog W r b0 68 v)
    (h : DataW.Trod enc Try.prog W 0 (fun _ => true) true 68 v d p) : ∃ o : OpD, ∃ cs : List Value, v = .agg cs.toArray ∧ RdOp W W.heap.size cs o := by
  obtain ⟨cs, rfl, hsz⟩ := okWide_struct Try.underlying68 hv
  obtain ⟨fuel, hf⟩ := h
  obtain ⟨o, ho⟩ := open_op hf
  exact ⟨o, cs.toList, by simp, ho⟩

set_option maxHeartbeats 1000000 in
theorem diskNil_walk (v : Value) (o : OpD) (w : World) (rd : ∃ cs : List Value, v = .agg cs.toArray ∧ RdOp w w.heap.size cs o) :
    Calls Try.prog 14 #[v] w (RetTrue w) := by
  obtain ⟨cs, rfl, hop⟩ := rd
  have hop' := hop
  obtain ⟨A1, c1, A2, c2, A3, c3, rfl, r1, r2, r3, _⟩ := hop'
  have hbox := Blk.new w 68 #[.int .i64 o.kind, .int .i64 o.n, .slice A1 o.b.length c1, .slice A2 o.at_.length c2, .slice A3 o.by_.length c3]
  have HOP := Lib.hid hop
  have HBX := Lib.hid hbox
  have hkd := kindD_bd o.kind
  clear hop r1 r2 r3 hbox
  go_enter Try.func14, Try.ntmps14
  go_wp2_with fail
  refine (livesD _).mono ?_
  rintro e w1 ⟨rfl, hb1⟩
  have hb1' : Below w.heap.size w w1 := ((Below.refl _ _).alloc (Nat.le_refl _) _).trans (hb1.mono (by simp))
  have hbx1 := HBX.out.below hb1 (by simp)
  have hs1 : w.heap.size < w1.heap.size := by have := hb1.size; simp at this; omega
  have q0 := hbx1.cell 0
  have q1 := hbx1.cell 1
  have q2 := hbx1.cell 2
  have q3 := hbx1.cell 3
  have q4 := hbx1.cell 4
  simp at q0 q1 q2 q3 q4
  go_wp2_with fail
  refine (does_nil _ o w.heap.size w1 (HOP.out.below hb1') (by omega)).mono ?_
  rintro e w2 ⟨rfl, hb2⟩
  have hb2' : Below w.heap.size w w2 := hb1'.trans (hb2.mono (by omega))
  have hbx2 := hbx1.below hb2 hs1
  have hs2 := hb2'.size
  have p0 := hbx2.cell 0
  have p1 := hbx2.cell 1
  have p2 := hbx2.cell 2
  have p3 := hbx2.cell 3
  have p4 := hbx2.cell 4
  simp at p0 p1 p2 p3 p4
  have hop2 := HOP.out.below hb2'
  by_cases hk : kindD o.kind < 3
  · have e1 : doesN o = 14 := by unfold doesN; rw [if_pos hk]
    rw [e1]
    clear hk e1 hb1 hb2 q0 q1 q2 q3 q4 hbx1 hbx2
    go_wp2_with (first
      | (go_at_call 45; refine (bytes_nil _).mono ?_; rintro e w3 ⟨rfl, rfl⟩)
      | (go_at_call 46; refine (sure_nil _).mono ?_; rintro e w3 ⟨rfl, rfl⟩)
      | (go_at_call 51; refine (room_nil _).mono ?_; rintro e w3 ⟨rfl, rfl⟩)
      | (go_at_call 50; refine (broken_nil _).mono ?_; rintro e w3 ⟨rfl, rfl⟩))
    go_ret
    exact ⟨rfl, hb2'⟩
  · have e1 : doesN o = 0 := by unfold doesN; rw [if_neg hk]
    rw [e1]
    have HK := Lib.hid (fun W (hW : Below w.heap.size w2 W) => kind_is _ o w.heap.size W (hop2.below hW) _ rfl)
    have hk3 : 2 < kindD o.kind := by omega
    clear hk e1 hb1 hb2 q0 q1 q2 q3 q4 hbx1 hbx2 hop2
    go_wp2_with (first
      | (go_at_call 44; refine (HK.out _ (Below.refl _ _)).mono ?_; rintro e w4 ⟨rfl, hb4⟩)
      | (go_at_call 45; refine (bytes_nil _).mono ?_; rintro e w3 ⟨rfl, rfl⟩)
      | (go_at_call 46; refine (sure_nil _).mono ?_; rintro e w3 ⟨rfl, rfl⟩)
      | (go_at_call 51; refine (room_nil _).mono ?_; rintro e w3 ⟨rfl, rfl⟩)
      | (go_at_call 50; refine (broken_nil _).mono ?_; rintro e w3 ⟨rfl, rfl⟩))
    go_ret
    exact ⟨rfl, hb2'.trans (hb4.mono hs2)⟩
end Go.Proofs.Ytjfbpnhkdlbinaa
