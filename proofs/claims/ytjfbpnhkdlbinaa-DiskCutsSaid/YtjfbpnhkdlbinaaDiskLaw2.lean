/- What the laws of package disk share: the first steps of a script, and what a step does. -/
import Derived.Test.YtjfbpnhkdlbinaaDiskLaw
import Derived.RegionCalls
namespace Go.Proofs.Ytjfbpnhkdlbinaa
open Go.RowKit Go.My
set_option linter.unusedSimpArgs false
set_option linter.unusedVariables false

def truncD (o : OpD) : OpD := { o with b := o.b.take 60, at_ := o.at_.take 20, by_ := o.by_.take 20 }

theorem elOp : El Try.prog 62 68 5 88 := ⟨Try.underlying62, by
  have h : (Try.prog.info? 68).map (fun i => (i.zero, i.size, i.bytes)) = some (some (.agg #[.int .i64 0, .int .i64 0, .slice none 0 0, .slice none 0 0, .slice none 0 0]), 5, 88) := by kernel_rfl
  obtain ⟨i, hi, hz, hs, hb⟩ := info_parts h
  exact ⟨i, _, hi, hz, hs, hb, rfl⟩, by omega⟩

/-- the cells of one element -/
theorem each_at {X : Type} {R : List Value → X → Prop} {size : Nat} {cells : List Value} {xs : List X} (h : Each R size cells xs) (k : Nat) (hk : k < xs.length) : R ((cells.drop (k * size)).take size) xs[k] := h.2 k xs[k] (List.getElem?_eq_getElem hk)
theorem cells_at {cells : List Value} {k size : Nat} {vs : List Value} (h : (cells.drop (k * size)).take size = vs) (i : Nat) (u : Value) (hu : vs[i]? = some u) : cells[k * size + i]? = some u := by
  rw [← h, List.getElem?_take] at hu
  split at hu
  · rwa [List.getElem?_drop] at hu
  · cases hu
theorem each_snoc {X : Type} {R : List Value → X → Prop} {size : Nat} {cells vs : List Value} {xs : List X} {x : X} (h : Each R size cells xs) (hv : vs.length = size) (hx : R vs x) : Each R size (cells ++ vs) (xs ++ [x]) := by
  refine ⟨by rw [List.length_append, h.1, hv, List.length_append, Nat.add_mul]; simp, fun i y hy => ?_⟩
  have hc := h.1
  by_cases hil : i < xs.length
  · rw [List.getElem?_append_left hil] at hy
    have h1 := h.2 i y hy
    have hle : i * size + size ≤ cells.length := by
      rw [hc, ← Nat.succ_mul]
      exact Nat.mul_le_mul_right _ hil
    rw [List.drop_append_of_le_length (by omega), List.take_append_of_le_length (by rw [List.length_drop]; omega)]
    exact h1
  · rw [List.getElem?_append_right (by omega)] at hy
    have hi0 : i - xs.length = 0 := by
      rcases Nat.eq_zero_or_pos (i - xs.length) with h | h
      · exact h
      · rw [List.getElem?_eq_none (by simp; omega)] at hy; cases hy
    rw [hi0] at hy
    simp only [List.getElem?_cons_zero, Option.some.injEq] at hy
    subst hy
    have hin : i = xs.length := by omega
    subst hin
    rw [← hc, List.drop_left, List.take_of_length_le (by omega)]
    exact hx
theorem Each.mono {X : Type} {R R' : List Value → X → Prop} {size : Nat} {cells : List Value} {xs : List X} (h : Each R size cells xs) (hr : ∀ c x, R c x → R' c x) : Each R' size cells xs := ⟨h.1, fun i x hx => hr _ _ (h.2 i x hx)⟩

def EarlyRel (w : World) (B : Nat) (l : List OpD) (v i : Value) (wr : World) : Prop :=
  ∃ (k : Nat) (cells : List Value), k ≤ l.length ∧ k ≤ 100 ∧ i = .int .i64 k ∧ Own wr 68 5 v k cells ∧ Each (RdOp wr B) 5 cells ((l.take k).map truncD) ∧ Fr No w wr ∧ Newer w.heap.size none v.ownBlock

/-- handed back: a script of the call's own -/
def RetScript (w : World) (B : Nat) (l : List OpD) (e : Ending) (w' : World) : Prop :=
  ∃ v cells, e = .returned v ∧ Own w' 68 5 v l.length cells ∧ Each (RdOp w' B) 5 cells l ∧ Fr No w w' ∧ Newer w.heap.size none v.ownBlock

set_option maxHeartbeats 1000000 in
theorem early_any (B : Nat) (F : Nat → Prop) (A : Option Addr) (c : Nat) (cells : List Value) (l : List OpD) (w : World) (hB : B ≤ w.heap.size) (hr : Rd w F 5 A l.length cells) (hE : Each (RdOp w B) 5 cells l) (hc : l.length ≤ c) (hcm : c ≤ maxLen) :
    Calls Try.prog 43 #[.slice A l.length c] w (RetScript w B ((l.take 100).map truncD)) := by
  have hll : l.length ≤ 9223372036854775807 := by simp only [maxLen] at hcm; omega
  have hr1 := rd_lt hr (by omega)
  have HR := Lib.hid hr1
  have HE := Lib.hid hE
  have HB := Lib.hid hB
  clear hr hr1 hE hcm hB
  go_enter Try.func43, Try.ntmps43
  go_wp2
  have hstart : EarlyRel w B l (.slice none 0 0) (.int .i64 0) w := ⟨0, [], Nat.zero_le _, by omega, rfl, Own.nil _ _ _, ⟨by simp, fun i x hx => by simp at hx⟩, Fr.refl _ _, .inl rfl⟩
  go_loopw [3, 4] (fun a b wr => EarlyRel w B l a b wr) (fun _ b _ => l.length - (intOf b).toNat)
  case atStart => exact hstart
  case round =>
    clear hstart
    obtain ⟨k, cs, hk, hk100, rfl, hown, heach, hfr, hnew⟩ := hrel
    by_cases hlt : k < l.length
    · have t1 : (k : Int) < l.length := by omega
      by_cases hlt2 : k < 100
      · have t2 : (k : Int) < 100 := by omega
        have hrd := (HR.out).below (B := w.heap.size) hfr.belowNo (fun _ h => h)
        have hek := each_at HE.out k hlt
        obtain ⟨A1, c1, A2, c2, A3, c3, hcs, r1, r2, r3, ⟨l1, m1⟩, ⟨l2, m2⟩, ⟨l3, m3⟩, hki, hni, hat⟩ := hek
        obtain ⟨ad, hA, _, hcell⟩ := hrd.2 (by omega)
        subst hA
        have q0 := hcell _ _ (cells_at hcs 0 _ rfl)
        have q1 := hcell _ _ (cells_at hcs 1 _ rfl)
        have q2 := hcell _ _ (cells_at hcs 2 _ rfl)
        have q3 := hcell _ _ (cells_at hcs 3 _ rfl)
        have q4 := hcell _ _ (cells_at hcs 4 _ rfl)
        rw [Nat.add_zero] at q0
        rw [add_lits ad (k * 5) _ (by omega)] at q1 q2 q3 q4
        have hbw : Below B w wr := hfr.belowNo.mono HB.out
        have htk : l.take (k + 1) = l.take k ++ [l[k]] := List.take_succ_eq_append_getElem hlt
        generalize l[k] = o at *
        have e1 := imin o.b.length 60
        have e2 := imin o.at_.length 20
        have e3 := imin o.by_.length 20
        have g1 : min o.b.length 60 = (o.b.take 60).length := by simp; omega
        have g2 : min o.at_.length 20 = (o.at_.take 20).length := by simp; omega
        have g3 : min o.by_.length 20 = (o.by_.take 20).length := by simp; omega
        have s1 : (o.b.take 60).length ≤ c1 := by omega
        have s2 : (o.at_.take 20).length ≤ c2 := by omega
        have s3 : (o.by_.take 20).length ≤ c3 := by omega
        have m1' : c1 ≤ 9223372036854775807 := by simp only [maxLen] at m1; omega
        have m2' : c2 ≤ 9223372036854775807 := by simp only [maxLen] at m2; omega
        have m3' : c3 ≤ 9223372036854775807 := by simp only [maxLen] at m3; omega
        have hrdop : RdOp wr B [.int .i64 o.kind, .int .i64 o.n, .slice A1 (o.b.take 60).length c1, .slice A2 (o.at_.take 20).length c2, .slice A3 (o.by_.take 20).length c3] (truncD o) := by
          have r1' := r1.take (k := (o.b.take 60).length) (by simp; omega)
          have r2' := r2.take (k := (o.at_.take 20).length) (by simp; omega)
          have r3' := r3.take (k := (o.by_.take 20).length) (by simp; omega)
          have t1 : bs (o.b.take 60) = (bs o.b).take ((o.b.take 60).length * 1) := by rw [← g1]; simp [bs]; omega
          have t2 : is_ (o.at_.take 20) = (is_ o.at_).take ((o.at_.take 20).length * 1) := by rw [← g2]; simp [is_]; omega
          have t3 : bs (o.by_.take 20) = (bs o.by_).take ((o.by_.take 20).length * 1) := by rw [← g3]; simp [bs]; omega
          rw [← t1] at r1'
          rw [← t2] at r2'
          rw [← t3] at r3'
          exact ⟨A1, c1, A2, c2, A3, c3, rfl, r1'.below hbw fun _ h => h, r2'.below hbw fun _ h => h, r3'.below hbw fun _ h => h, ⟨s1, m1⟩, ⟨s2, m2⟩, ⟨s3, m3⟩, hki, hni, fun x hx => hat x (List.mem_of_mem_take hx)⟩
        rw [g1] at e1
        rw [g2] at e2
        rw [g3] at e3
        have e1' : (if (60 : Int) < (o.b.length : Int) then (60 : Int) else (o.b.length : Int)) = ((o.b.take 60).length : Int) := e1
        have e2' : (if (20 : Int) < (o.at_.length : Int) then (20 : Int) else (o.at_.length : Int)) = ((o.at_.take 20).length : Int) := e2
        have e3' : (if (20 : Int) < (o.by_.length : Int) then (20 : Int) else (o.by_.length : Int)) = ((o.by_.take 20).length : Int) := e3
        have HTK := Lib.hid htk
        have HOP := Lib.hid hrdop
        have HO := Lib.hid hown
        have HEA := Lib.hid heach
        have lb1 : o.b.length ≤ 9223372036854775807 := by omega
        have lb2 : o.at_.length ≤ 9223372036854775807 := by omega
        have lb3 : o.by_.length ≤ 9223372036854775807 := by omega
        clear e1 e2 e3 g1 g2 g3 htk hrdop hown heach r1 r2 r3 hcs hcell hrd hat hki hni hbw l1 l2 l3 m1 m2 m3
        generalize (o.b.take 60).length = n1 at *
        generalize (o.at_.take 20).length = n2 at *
        generalize (o.by_.take 20).length = n3 at *
        go_wp2_with (at_builtin; refine wpList_app _ rfl (.tmp 44) (.tmp 46) 62 62 rfl elOp (by exact ((HO.out.alloc _).alloc _)) rfl (by exact Src.of_new (wr.heap.size + 1) (heap_alloc2_new wr _ _) Try.underlying62 rfl (by simp [Value.oneCell'])) rfl (by simp only [maxLen]; omega) (by omega) ?_; intro v1 w1 ho1 hf1 hn1)
        go_roundw
        case rel =>
          have hfr1 : Fr (AtO u3.ownBlock) wr w1 := (((Fr.refl (AtO u3.ownBlock) wr).alloc _).alloc _).trans hf1
          have hfr2 := fr_no hfr hnew hfr1
          refine ⟨k + 1, _, by omega, by omega, by go_num, ho1, ?_, hfr2, hnew.trans (Newer.of hn1) (by have := hfr.size; simp; omega)⟩
          rw [HTK.out, List.map_append]
          have hb1 : Below B wr w1 := hfr1.below_at (by have := hfr.size; have := HB.out; omega) (fun i hi h => by
            rcases hnew with h' | ⟨j, h', hj⟩
            · rw [AtO, h'] at h; cases h
            · rw [AtO, h'] at h; injection h with h; have := HB.out; omega)
          exact each_snoc (Each.mono HEA.out fun c x h => h.below hb1) rfl (HOP.out.below hb1)
        case measure => simp [intOf]; omega
      · obtain rfl : k = 100 := by omega
        have t2 : (((100 : Nat) : Int) < 100) = False := by simp
        have hfin : RetScript w B ((l.take 100).map truncD) (.returned u3) wr := by
          have e : ((l.take 100).map truncD).length = 100 := by simp; omega
          exact ⟨u3, cs, rfl, by rw [e]; exact hown, heach, hfr, hnew⟩
        have HF := Lib.hid hfin
        clear hown heach hfr hnew hfin
        go_wp2
        go_ret
        exact HF.out
    · obtain rfl : k = l.length := by omega
      have hfin : RetScript w B ((l.take 100).map truncD) (.returned u3) wr := by
        have e : l.take 100 = l := List.take_of_length_le (by omega)
        rw [List.take_length] at heach
        exact ⟨u3, cs, rfl, by rw [e, List.length_map]; exact hown, by rw [e]; exact heach, hfr, hnew⟩
      have HF := Lib.hid hfin
      clear hown heach hfr hnew hfin
      go_wp2
      go_ret
      exact HF.out
end Go.Proofs.Ytjfbpnhkdlbinaa
