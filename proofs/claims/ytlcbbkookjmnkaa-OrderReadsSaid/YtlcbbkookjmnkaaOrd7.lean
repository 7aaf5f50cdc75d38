/- Contracts of package order: Told. -/
import Derived.Test.YtlcbbkookjmnkaaConB
import Derived.Test.YtlcbbkookjmnkaaOrd6
import Derived.Deep.RegionHeld3
namespace Go.Proofs.Ytlcbbkookjmnkaa
open Go.RowKit Go.My Go.Maps
set_option linter.unusedSimpArgs false
set_option linter.unusedVariables false
attribute [local go_sem ↓] Go.wp_at_zero Go.wp_at_succ

/-- a number's bytes, a text's -/
def nB (x : Int) : List UInt8 := enc (zig x)
def tB (s : List UInt8) : List UInt8 := enc (zig s.length) ++ s
theorem nB_len (x : Int) : (nB x).length ≤ 10 := enc_length_le _
/-- handed back: bytes of the call's own -/
def RetB (l : List UInt8) (w : World) (e : Ending) (w' : World) : Prop := ∃ A c, e = .returned (.slice A l.length c) ∧ Own w' 5 1 (.slice A l.length c) l.length (bs l) ∧ Fr No w w'
theorem RetB.of {l : List UInt8} {w w' : World} {e : Ending} (h : RetOwn w 5 1 none l.length (bs l) e w') : RetB l w e w' := by
  obtain ⟨v, rfl, ho, hf, _⟩ := h
  obtain ⟨A, c, rfl, _, _⟩ := ho.form
  exact ⟨A, c, rfl, ho, fr_at_none hf⟩
theorem pnum_any (x : Int) (hx : In64 x) (w : World) : Calls Try.prog 35 #[.int .i64 x] w (RetB (nB x) w) := (num_any x w hx.1 hx.2).mono fun e w' h => RetB.of h
theorem onum_any (x : Int) (hx : In64 x) (w : World) : Calls Try.prog 33 #[.int .i64 x] w (RetB (nB x) w) := by
  have H := Lib.hid (pnum_any x hx w)
  unfold In64 at hx
  go_enter Try.func33, Try.ntmps33
  go_wp2_with fail
  refine H.out.mono ?_
  rintro e w1 ⟨A, c, rfl, ho, hf⟩
  go_wp2
  go_ret
  exact ⟨A, c, rfl, ho, hf⟩
theorem ptext_any (s : ByteArray) (hs : s.size ≤ 140737488350000) (w : World) : Calls Try.prog 34 #[.string s] w (RetB (tB s.data.toList) w) := (text_any s w hs).mono fun e w' h => RetB.of (by
  have e1 : (tB s.data.toList).length = (enc (zig s.size)).length + s.size := by unfold tB; rw [List.length_append]; rfl
  rw [e1]
  exact h)
/-- lists of bytes of the call's own, in a row -/
theorem LsB.of {w : World} {g : Nat} {t : TypeId} {vs : List Value} {ls : List (List UInt8)} (hb : Blk w g t vs.toArray) (hl : vs.length = ls.length) (h : ∀ i (hi : i < ls.length), ∃ A c, vs[i]? = some (.slice A ls[i].length c) ∧ Own w 5 1 (.slice A ls[i].length c) ls[i].length (bs ls[i])) : LsB w (some ⟨g, 0, none⟩) ls := by
  refine ⟨vs, ⟨by rw [hl]; simp, fun _ => ⟨_, rfl, True.intro, fun j u hu => ?_⟩⟩, fun i hi => ?_⟩
  · rw [add_zero, hb.cell j]
    simpa using hu
  · obtain ⟨A, c, h1, h2⟩ := h i hi
    exact ⟨A, c, h1, h2.rd.more (fun _ _ => True.intro)⟩
theorem ownNo {w w' : World} {e : TypeId} {size n : Nat} {v : Value} {xs : List Value} (h : Own w e size v n xs) (hf : Fr No w w') : Own w' e size v n xs := h.fr hf (fun _ _ h => h)

theorem concatB_n (c : Nat) {A : Option Addr} {n : Nat} {Ls : List (List UInt8)} {w : World} (h : LsB w A Ls) (hn : Ls.length = n) (hl : n ≤ 100) (hL : (flatB Ls).length ≤ 1000) :
    Calls Try.prog 32 #[.slice A n c] w (RetB (flatB Ls) w) := by
  subst hn
  exact (concatB_any A c Ls w h hl hL).mono fun _ _ h => RetB.of h
theorem LsB.three {u : World} {A1 A2 A3 : Option Addr} {l1 l2 l3 : List UInt8} {c1 c2 c3 : Nat} (h1 : Own u 5 1 (.slice A1 l1.length c1) l1.length (bs l1)) (h2 : Own u 5 1 (.slice A2 l2.length c2) l2.length (bs l2)) (h3 : Own u 5 1 (.slice A3 l3.length c3) l3.length (bs l3)) :
    LsB (u.alloc (.cells #[.slice A1 l1.length c1, .slice A2 l2.length c2, .slice A3 l3.length c3] 32)) (some ⟨u.heap.size, 0, none⟩) [l1, l2, l3] := by
  refine LsB.of (vs := [.slice A1 l1.length c1, .slice A2 l2.length c2, .slice A3 l3.length c3]) (Blk.new u 32 _) rfl (fun i hi => ?_)
  simp only [List.length_cons, List.length_nil] at hi
  match i, hi with
  | 0, _ => exact ⟨A1, c1, rfl, h1.alloc _⟩
  | 1, _ => exact ⟨A2, c2, rfl, h2.alloc _⟩
  | 2, _ => exact ⟨A3, c3, rfl, h3.alloc _⟩
  | i + 3, h => exact absurd h (by omega)
theorem LsB.four {u : World} {A1 A2 A3 A4 : Option Addr} {l1 l2 l3 l4 : List UInt8} {c1 c2 c3 c4 : Nat} (h1 : Own u 5 1 (.slice A1 l1.length c1) l1.length (bs l1)) (h2 : Own u 5 1 (.slice A2 l2.length c2) l2.length (bs l2)) (h3 : Own u 5 1 (.slice A3 l3.length c3) l3.length (bs l3)) (h4 : Own u 5 1 (.slice A4 l4.length c4) l4.length (bs l4)) :
    LsB (u.alloc (.cells #[.slice A1 l1.length c1, .slice A2 l2.length c2, .slice A3 l3.length c3, .slice A4 l4.length c4] 32)) (some ⟨u.heap.size, 0, none⟩) [l1, l2, l3, l4] := by
  refine LsB.of (vs := [.slice A1 l1.length c1, .slice A2 l2.length c2, .slice A3 l3.length c3, .slice A4 l4.length c4]) (Blk.new u 32 _) rfl (fun i hi => ?_)
  simp only [List.length_cons, List.length_nil] at hi
  match i, hi with
  | 0, _ => exact ⟨A1, c1, rfl, h1.alloc _⟩
  | 1, _ => exact ⟨A2, c2, rfl, h2.alloc _⟩
  | 2, _ => exact ⟨A3, c3, rfl, h3.alloc _⟩
  | 3, _ => exact ⟨A4, c4, rfl, h4.alloc _⟩
  | i + 4, h => exact absurd h (by omega)
theorem LsB.seven {u : World} {A1 A2 A3 A4 A5 A6 A7 : Option Addr} {l1 l2 l3 l4 l5 l6 l7 : List UInt8} {c1 c2 c3 c4 c5 c6 c7 : Nat} (h1 : Own u 5 1 (.slice A1 l1.length c1) l1.length (bs l1)) (h2 : Own u 5 1 (.slice A2 l2.length c2) l2.length (bs l2)) (h3 : Own u 5 1 (.slice A3 l3.length c3) l3.length (bs l3)) (h4 : Own u 5 1 (.slice A4 l4.length c4) l4.length (bs l4)) (h5 : Own u 5 1 (.slice A5 l5.length c5) l5.length (bs l5)) (h6 : Own u 5 1 (.slice A6 l6.length c6) l6.length (bs l6)) (h7 : Own u 5 1 (.slice A7 l7.length c7) l7.length (bs l7)) :
    LsB (u.alloc (.cells #[.slice A1 l1.length c1, .slice A2 l2.length c2, .slice A3 l3.length c3, .slice A4 l4.length c4, .slice A5 l5.length c5, .slice A6 l6.length c6, .slice A7 l7.length c7] 32)) (some ⟨u.heap.size, 0, none⟩) [l1, l2, l3, l4, l5, l6, l7] := by
  refine LsB.of (vs := [.slice A1 l1.length c1, .slice A2 l2.length c2, .slice A3 l3.length c3, .slice A4 l4.length c4, .slice A5 l5.length c5, .slice A6 l6.length c6, .slice A7 l7.length c7]) (Blk.new u 32 _) rfl (fun i hi => ?_)
  simp only [List.length_cons, List.length_nil] at hi
  match i, hi with
  | 0, _ => exact ⟨A1, c1, rfl, h1.alloc _⟩
  | 1, _ => exact ⟨A2, c2, rfl, h2.alloc _⟩
  | 2, _ => exact ⟨A3, c3, rfl, h3.alloc _⟩
  | 3, _ => exact ⟨A4, c4, rfl, h4.alloc _⟩
  | 4, _ => exact ⟨A5, c5, rfl, h5.alloc _⟩
  | 5, _ => exact ⟨A6, c6, rfl, h6.alloc _⟩
  | 6, _ => exact ⟨A7, c7, rfl, h7.alloc _⟩
  | i + 7, h => exact absurd h (by omega)
/-- a reply -/
structure Rp where
  err : Int
  hv : Int
  st : Int
  num : Int
def Rp.ok (r : Rp) : Prop := In64 r.err ∧ In64 r.hv ∧ In64 r.st ∧ In64 r.num
def toldB (r : Rp) : List UInt8 := flatB [nB r.err, nB r.hv, nB r.st, nB r.num]
theorem toldB_len (r : Rp) : (toldB r).length ≤ 1000 := by
  have h1 := nB_len r.err
  have h2 := nB_len r.hv
  have h3 := nB_len r.st
  have h4 := nB_len r.num
  unfold toldB flatB
  simp only [List.flatten_cons, List.flatten_nil, List.length_append, List.length_nil]
  omega
set_option maxRecDepth 100000 in
set_option maxHeartbeats 4000000 in
theorem told_any (r : Rp) (hr : r.ok) (w : World) : Calls Try.prog 16 #[.agg #[.int .i64 r.err, .int .i64 r.hv, .int .i64 r.st, .int .i64 r.num]] w (RetB (toldB r) w) := by
  obtain ⟨re, rh, rs, rn⟩ := r
  obtain ⟨h1, h2, h3, h4⟩ := hr
  simp only at h1 h2 h3 h4 ⊢
  have N1 := Lib.hid (fun W => onum_any re h1 W)
  have N2 := Lib.hid (fun W => pnum_any rh h2 W)
  have N3 := Lib.hid (fun W => pnum_any rs h3 W)
  have N4 := Lib.hid (fun W => onum_any rn h4 W)
  have HL : Hid ((flatB [nB re, nB rh, nB rs, nB rn]).length ≤ 1000 ∧ 4 ≤ 100) := ⟨toldB_len ⟨re, rh, rs, rn⟩, by omega⟩
  have hbx := Blk.new w 29 #[.int .i64 re, .int .i64 rh, .int .i64 rs, .int .i64 rn]
  have hf0 : Fr No w (w.alloc (.cells #[.int .i64 re, .int .i64 rh, .int .i64 rs, .int .i64 rn] 29)) := (Fr.refl _ _).alloc _
  clear h1 h2 h3 h4
  go_enter Try.func16, Try.ntmps16
  go_wp2
  generalize w.alloc (.cells #[.int .i64 re, .int .i64 rh, .int .i64 rs, .int .i64 rn] 29) = w1 at *
  have HF0 := Lib.hid hf0
  have HX : Hid (∀ W, Fr No w1 W → Fr No w1 W ∧ W.cell? ⟨w.heap.size, 0, none⟩ = some (.int .i64 re) ∧ W.cell? ⟨w.heap.size, 1, none⟩ = some (.int .i64 rh) ∧ W.cell? ⟨w.heap.size, 2, none⟩ = some (.int .i64 rs) ∧ W.cell? ⟨w.heap.size, 3, none⟩ = some (.int .i64 rn)) := fun W hW => by
    have h := hbx.fr hW (fun h => h)
    exact ⟨hW, h.cell 0, h.cell 1, h.cell 2, h.cell 3⟩
  have hw1 : Fr No w1 w1.drew := (Fr.refl No w1).drew
  clear hf0 hbx
  go_region_held3 (fun W => Fr No w1 W ∧ W.cell? ⟨w.heap.size, 0, none⟩ = some (.int .i64 re) ∧ W.cell? ⟨w.heap.size, 1, none⟩ = some (.int .i64 rh) ∧ W.cell? ⟨w.heap.size, 2, none⟩ = some (.int .i64 rs) ∧ W.cell? ⟨w.heap.size, 3, none⟩ = some (.int .i64 rn))
    (first
      | (refine HX.out _ ?_; with_reducible assumption)
      | (refine HX.out _ (Fr.alloc ?_ _); with_reducible assumption))
    (first
      | (go_at_call 33; (with_reducible refine (N1.out _).mono ?_); rintro e u1 ⟨A1, c1, rfl, ho1, hf1⟩; have hg1 := Fr.trans hw1 hf1)
      | (go_at_call 35; (with_reducible refine (N2.out _).mono ?_); rintro e u2 ⟨A2, c2, rfl, ho2, hf2⟩; have hg2 := Fr.trans hg1 hf2)
      | (go_at_call 35; (with_reducible refine (N3.out _).mono ?_); rintro e u3 ⟨A3, c3, rfl, ho3, hf3⟩; have hg3 := Fr.trans hg2 hf3)
      | (go_at_call 33; (with_reducible refine (N4.out _).mono ?_); rintro e u4 ⟨A4, c4, rfl, ho4, hf4⟩; have hg4 := Fr.trans hg3 hf4)
      | (go_at_call 32; have q5 := concatB_n 4 (n := 4) (LsB.four (ownNo ho1 (hf2.trans (hf3.trans hf4))) (ownNo ho2 (hf3.trans hf4)) (ownNo ho3 hf4) ho4) rfl HL.out.2 HL.out.1; (with_reducible refine q5.mono ?_); rintro e u5 ⟨A5, c5, rfl, ho5, hf5⟩; have hg5 := (Fr.trans (Fr.alloc hg4 _) hf5)))
  all_goals
    go_wp2
    go_ret
    exact ⟨A5, c5, rfl, ho5, HF0.out.trans hg5⟩
end Go.Proofs.Ytlcbbkookjmnkaa
