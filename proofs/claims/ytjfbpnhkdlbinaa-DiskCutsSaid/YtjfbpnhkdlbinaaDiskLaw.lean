/- What the laws of package disk share: scripts, steps. -/
import Derived.Test.YtjfbpnhkdlbinaaDisk3
import Derived.Deep.RegionLaw
namespace Go.Proofs.Ytjfbpnhkdlbinaa
open Go.RowKit Go.My
set_option linter.unusedSimpArgs false
set_option linter.unusedVariables false

/-- a step of a script -/
structure OpD where
  kind : Int
  n : Int
  b : List UInt8
  at_ : List Int
  by_ : List UInt8

/-- the cells cs hold the step o, its lists in blocks below B -/
def RdOp (w : World) (B : Nat) (cs : List Value) (o : OpD) : Prop :=
  ∃ A1 c1 A2 c2 A3 c3, cs = [.int .i64 o.kind, .int .i64 o.n, .slice A1 o.b.length c1, .slice A2 o.at_.length c2, .slice A3 o.by_.length c3] ∧
    Rd w (Lt B) 1 A1 o.b.length (bs o.b) ∧ Rd w (Lt B) 1 A2 o.at_.length (is_ o.at_) ∧ Rd w (Lt B) 1 A3 o.by_.length (bs o.by_) ∧
    (o.b.length ≤ c1 ∧ c1 ≤ maxLen) ∧ (o.at_.length ≤ c2 ∧ c2 ≤ maxLen) ∧ (o.by_.length ≤ c3 ∧ c3 ≤ maxLen) ∧
    (-9223372036854775808 ≤ o.kind ∧ o.kind ≤ 9223372036854775807) ∧ (-9223372036854775808 ≤ o.n ∧ o.n ≤ 9223372036854775807) ∧ I64s o.at_

theorem RdOp.below {w w' : World} {B : Nat} {cs : List Value} {o : OpD} (h : RdOp w B cs o) (hb : Below B w w') : RdOp w' B cs o := by
  obtain ⟨A1, c1, A2, c2, A3, c3, hcs, r1, r2, r3, rest⟩ := h
  exact ⟨A1, c1, A2, c2, A3, c3, hcs, r1.below hb fun _ h => h, r2.below hb fun _ h => h, r3.below hb fun _ h => h, rest⟩

section
variable {H : Type} {enc : TypeId × Value → H} {w : World} {base : Nat} {spare : Nat → Bool} {held : Bool}
theorem open_op {n : Nat} {cs : List Value} {x : DataW H × List MemPlace} (h : DataW.trod enc Try.prog w base spare held n 68 cs = some x) : ∃ o, RdOp w w.heap.size cs o := by
  obtain ⟨xs, m, _, _, hl, _, hf⟩ := DataW.trod_struct Try.underlying68 h
  have hC : Try.prog.cellsOf 68 = 5 := by kernel_rfl
  have C3 : Try.prog.cellsOf 3 = 1 := by kernel_rfl
  have CB : Try.prog.cellsOf 25 = 1 := by kernel_rfl
  have CI : Try.prog.cellsOf 66 = 1 := by kernel_rfl
  rw [hC] at hl
  match cs, hl with
  | [v0, v1, v2, v3, v4], _ =>
    have f0 : DataW.trod enc Try.prog w base spare held m 3 [v0] = xs[0]? := by have := hf 0 _ rfl; simpa [C3] using this
    have f1 : DataW.trod enc Try.prog w base spare held m 3 [v1] = xs[1]? := by have := hf 1 _ rfl; simpa [C3] using this
    have f2 : DataW.trod enc Try.prog w base spare held m 25 [v2] = xs[2]? := by have := hf 2 _ rfl; simpa [CB] using this
    have f3 : DataW.trod enc Try.prog w base spare held m 66 [v3] = xs[3]? := by have := hf 3 _ rfl; simpa [CI] using this
    have f4 : DataW.trod enc Try.prog w base spare held m 25 [v4] = xs[4]? := by have := hf 4 _ rfl; simpa [CB] using this
    have g : ∀ i, i < xs.length → ∃ y, xs[i]? = some y := fun i hi => ⟨xs[i], List.getElem?_eq_getElem hi⟩
    have hxl : xs.length = 5 := by assumption
    obtain ⟨y0, e0⟩ := g 0 (by omega)
    obtain ⟨y1, e1⟩ := g 1 (by omega)
    obtain ⟨y2, e2⟩ := g 2 (by omega)
    obtain ⟨y3, e3⟩ := g 3 (by omega)
    obtain ⟨y4, e4⟩ := g 4 (by omega)
    rw [e0] at f0; rw [e1] at f1; rw [e2] at f2; rw [e3] at f3; rw [e4] at f4
    obtain ⟨k, hk, _, wk⟩ := DataW.trod_int Try.underlying3 f0
    obtain ⟨n', hn, _, wn⟩ := DataW.trod_int Try.underlying3 f1
    obtain ⟨A1, c1, b, h2, r2, l2, m2⟩ := open_bytes Try.underlying25 Try.underlying5 (by kernel_rfl) f2
    obtain ⟨A2, c2, at_, h3, r3, l3, m3, i3⟩ := open_i64s Try.underlying66 Try.underlying3 (by kernel_rfl) f3
    obtain ⟨A3, c3, by_, h4, r4, l4, m4⟩ := open_bytes Try.underlying25 Try.underlying5 (by kernel_rfl) f4
    simp only [List.cons.injEq, and_true] at hk hn h2 h3 h4
    subst hk hn h2 h3 h4
    exact ⟨⟨k, n', b, at_, by_⟩, A1, c1, A2, c2, A3, c3, rfl, r2, r3, r4, ⟨l2, m2⟩, ⟨l3, m3⟩, ⟨l4, m4⟩, bounds_i64 wk, bounds_i64 wn, i3⟩
end

/-- a step's kind -/
def kindD (k : Int) : Int := (k % 18446744073709551616) % 5
theorem kindD_bd (k : Int) : 0 ≤ kindD k ∧ kindD k < 5 := by unfold kindD; omega

set_option maxHeartbeats 400000 in
theorem kind_any (k n : Int) (b a y : Value) (w : World) (h1 : -9223372036854775808 ≤ k) (h2 : k ≤ 9223372036854775807) :
    Calls Try.prog 44 #[.agg #[.int .i64 k, .int .i64 n, b, a, y]] w fun e w' => e = .returned (.int .i64 (kindD k)) ∧ Below w.heap.size w w' := by
  have hk : Hid (wrap64 ((IntKind.u64.wrap k).tmod 5) = kindD k) := by
    show _ = _
    obtain ⟨j, hj, hj5⟩ := umod k 5 (by omega) (by omega)
    have e : (IntKind.u64.wrap k).tmod ((5 : Nat) : Int) = (IntKind.u64.wrap k).tmod 5 := rfl
    rw [e] at hj
    rw [IntKind.wrap_u64] at hj ⊢
    unfold kindD
    have e2 : (k % 18446744073709551616).tmod 5 = (k % 18446744073709551616) % 5 := by
      rw [Int.tmod_eq_emod_of_nonneg (by omega)]
    rw [e2]
    exact IntWalk.wrap64_in _ ⟨by omega, by omega⟩
  go_enter Try.func44, Try.ntmps44
  go_wp2
  go_ret
  exact ⟨by rw [← hk.out]; rfl, (Below.refl _ _).alloc (Nat.le_refl _) _⟩

/-- a step's spoils -/
def spoilsD (o : OpD) : List (Int × UInt8) := (o.at_.zip o.by_).take 20
theorem spoilsD_le (o : OpD) : (spoilsD o).length ≤ 20 := by unfold spoilsD; exact List.length_take_le _ _
theorem spoilsD_len (o : OpD) : (spoilsD o).length = min (min o.at_.length o.by_.length) 20 := by unfold spoilsD; simp; omega

theorem elSp : El Try.prog 90 93 2 16 := ⟨Try.underlying90, by
  have h : (Try.prog.info? 93).map (fun i => (i.zero, i.size, i.bytes)) = some (some (.agg #[.int .i64 0, .int .u8 0]), 2, 16) := by kernel_rfl
  obtain ⟨i, hi, hz, hs, hb⟩ := info_parts h
  exact ⟨i, _, hi, hz, hs, hb, rfl⟩, by omega⟩

def SpRel (W1 : World) (o : OpD) (v i : Value) (wr : World) : Prop :=
  ∃ k : Nat, k ≤ (spoilsD o).length ∧ i = .int .i64 k ∧ Own wr 93 2 v k (sp ((spoilsD o).take k)) ∧ Fr No W1 wr ∧ Newer W1.heap.size none v.ownBlock

theorem sp_append (l r : List (Int × UInt8)) : sp (l ++ r) = sp l ++ sp r := by simp [sp]

set_option maxHeartbeats 1000000 in
theorem spoils_any (cs : List Value) (o : OpD) (w : World) (h : RdOp w w.heap.size cs o) :
    Calls Try.prog 64 #[.agg cs.toArray] w (RetOwn w 93 2 none (spoilsD o).length (sp (spoilsD o))) := by
  obtain ⟨A1, c1, A2, c2, A3, c3, rfl, r1, r2, r3, ⟨l1, m1⟩, ⟨l2, m2⟩, ⟨l3, m3⟩, _, _, _⟩ := h
  have hm := spoilsD_len o
  have hA : o.at_.length ≤ 9223372036854775807 := by simp only [maxLen] at m2; omega
  have hB : o.by_.length ≤ 9223372036854775807 := by simp only [maxLen] at m3; omega
  obtain ⟨W1, hW1⟩ : ∃ W1, W1 = w.alloc (.cells #[.int .i64 o.kind, .int .i64 o.n, .slice A1 o.b.length c1, .slice A2 o.at_.length c2, .slice A3 o.by_.length c3] 68) := ⟨_, rfl⟩
  have hbox : Blk W1 w.heap.size 68 #[.int .i64 o.kind, .int .i64 o.n, .slice A1 o.b.length c1, .slice A2 o.at_.length c2, .slice A3 o.by_.length c3] := by rw [hW1]; exact Blk.new _ _ _
  have hfw : Fr No w W1 := by rw [hW1]; exact (Fr.refl _ _).alloc _
  have hsz1 : W1.heap.size = w.heap.size + 1 := by rw [hW1]; simp
  have HW := Lib.hid hW1
  clear hW1
  go_enter Try.func64, Try.ntmps64
  go_wp2
  rw [← HW.out]
  have hstart : SpRel W1 o (.slice none 0 0) (.int .i64 0) W1 := ⟨0, Nat.zero_le _, rfl, by simpa [sp] using Own.nil W1 93 2, Fr.refl _ _, .inl rfl⟩
  go_loopw [3, 4] (fun a b wr => SpRel W1 o a b wr) (fun _ b _ => (spoilsD o).length - (intOf b).toNat)
  case atStart => exact hstart
  case round =>
    clear hstart
    obtain ⟨k, hk, rfl, hown, hfr, hnew⟩ := hrel
    have hbx := hbox.fr hfr (fun h => h)
    have b3 := hbx.cell 3
    have b4 := hbx.cell 4
    simp at b3 b4
    by_cases hlt : k < (spoilsD o).length
    · have t1 : (k : Int) < o.at_.length := by omega
      have t2 : (k : Int) < o.by_.length := by omega
      have t3 : (k : Int) < 20 := by omega
      obtain ⟨ad, u, rfl, _, hx, hc⟩ := (r2.below (B := w.heap.size) ((hfw.trans hfr).belowNo) (fun _ h => h)).at_ (show k < o.at_.length by omega)
      obtain ⟨bd, u2, rfl, _, hx2, hc2⟩ := (r3.below (B := w.heap.size) ((hfw.trans hfr).belowNo) (fun _ h => h)).at_ (show k < o.by_.length by omega)
      rw [is_get _ k (by omega)] at hx
      rw [bs_get _ k (by omega)] at hx2
      injection hx with hx
      injection hx2 with hx2
      subst hx
      subst hx2
      have htk : (spoilsD o).take (k + 1) = (spoilsD o).take k ++ [(o.at_[k]'(by omega), o.by_[k]'(by omega))] := by
        rw [List.take_succ_eq_append_getElem hlt]
        simp [spoilsD]
      have HTK := Lib.hid htk
      have HM := Lib.hid hm
      have H1 := Lib.hid l1
      clear htk hm hbx
      generalize o.at_[k]'(by omega) = xa at *
      generalize o.by_[k]'(by omega) = xb at *
      go_wp2_with fail
      go_region_law (refine step_app _ rfl (.tmp 23) (.tmp 35) 90 90 rfl elSp (by exact (hown.drew.alloc _)) rfl (by exact Src.of_new wr.heap.size (heap_alloc_new wr _) Try.underlying90 rfl (by simp [Value.oneCell'])) rfl (by simp only [maxLen]; omega) (by omega) ?_; intro v1 w1 ho1 hf1 hn1)
      all_goals
        go_wp2
        go_roundw
        case rel =>
          refine ⟨k + 1, by omega, by go_num, ?_, ?_, ?_⟩
          · rw [HTK.out, sp_append]
            exact ho1
          · refine fr_no hfr hnew ?_
            exact ((Fr.refl (AtO u3.ownBlock) wr).drew.alloc _).trans hf1
          · have := hfr.size
            exact hnew.trans (Newer.of hn1) (by simp; omega)
        case measure => simp [intOf]; omega
    · have hk' : k = (spoilsD o).length := by omega
      rw [hk', List.take_length] at hown
      have hfin : RetOwn w 93 2 none (spoilsD o).length (sp (spoilsD o)) (.returned u3) wr :=
        ⟨u3, rfl, hown, (hfw.trans hfr).mono (fun _ _ h => False.elim h), hnew.trans (.inl rfl) (Nat.le_refl _) |>.imp_right fun ⟨j, hj, hl⟩ => ⟨j, hj, by omega⟩⟩
      have HF := Lib.hid hfin
      clear hown hfin hnew hbx
      by_cases q1 : k < o.at_.length
      · have t1 : (k : Int) < o.at_.length := by omega
        by_cases q2 : k < o.by_.length
        · have t2 : (k : Int) < o.by_.length := by omega
          have t3 : ¬ (k : Int) < 20 := by omega
          clear hm hk' hlt
          go_wp2
          go_ret
          exact HF.out
        · have t2 : ¬ (k : Int) < o.by_.length := by omega
          clear hm hk' hlt
          go_wp2
          go_ret
          exact HF.out
      · have t1 : ¬ (k : Int) < o.at_.length := by omega
        clear hm hk' hlt
        go_wp2
        go_ret
        exact HF.out
end Go.Proofs.Ytjfbpnhkdlbinaa
