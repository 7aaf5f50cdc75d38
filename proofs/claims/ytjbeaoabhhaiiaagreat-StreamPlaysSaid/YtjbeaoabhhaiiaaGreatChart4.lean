/- Contracts of package chart: the deeds themselves. -/
import Derived.Test.YtjbeaoabhhaiiaaGreatChart3
import Derived.Deep.QuietTactic
import Derived.BigQuiet
namespace Go.Proofs.YtjbeaoabhhaiiaaGreat
open Go.RowKit Go.My Go.Maps
set_option linter.unusedSimpArgs false
set_option linter.unusedVariables false
attribute [local go_sem ↓] Go.wp_at_zero Go.wp_at_succ

/-- what an account's numbers are -/
def OkA (a : Ac) : Prop := In64 a.hv ∧ (0 ≤ a.st ∧ a.st ≤ 9223372036854775807) ∧ (0 ≤ a.lim ∧ a.lim ≤ 9223372036854775807)
/-- free to give -/
def freeB (a : Ac) (x : Int) : Bool := decide (-a.lim ≤ a.hv - a.st - x)

theorem total3 (a b c : Int) : total [a, b, c] = a + b + c := by simp [total_cons, total_nil]; omega
set_option maxRecDepth 100000 in
set_option maxHeartbeats 1000000 in
theorem cangive_any (a : Ac) (x : Int) (w : World) (ha : OkA a) (hx : 0 < x ∧ x ≤ 9223372036854775807) :
    Calls Tryz.prog 163 #[.agg #[.string ⟨a.name.toArray⟩, .int .i64 a.hv, .int .i64 a.st, .int .i64 a.lim], .int .i64 x] w fun e w' => e = .returned (.bool (freeB a x)) ∧ Below w.heap.size w w' := by
  obtain ⟨h1, h2, h3⟩ := ha
  have hT : Hid (∀ (A : Option Addr) W, Rd W (fun _ => True) 1 A 3 (is_ [a.hv, -a.st, -x]) → Calls Tryz.prog 173 #[.slice A 3 3] W fun e w' => e = .returned (two64 (a.hv - a.st - x)) ∧ W = w') := fun A W hr => by
    have h := total_any (fun _ => True) A 3 [a.hv, -a.st, -x] W hr (fun y hy => by
      simp only [List.mem_cons, List.not_mem_nil, or_false] at hy
      unfold In64 at h1 ⊢
      rcases hy with rfl | rfl | rfl <;> omega) (by simp)
    rw [total3, show a.hv + -a.st + -x = a.hv - a.st - x by omega] at h
    exact h
  have hres : Hid ((In64 (a.hv - a.st - x) → two64 (a.hv - a.st - x) = .tuple #[.int .i64 (a.hv - a.st - x), .int .i64 0]) ∧ (¬ In64 (a.hv - a.st - x) → two64 (a.hv - a.st - x) = .tuple #[.int .i64 0, .int .i64 2] ∧ freeB a x = false)) :=
    ⟨fun h => two64_in h, fun h => ⟨two64_out h, by unfold freeB; rw [decide_eq_false_iff_not]; unfold In64 at h h1; omega⟩⟩
  have hfr : Hid (freeB a x = decide (-a.lim ≤ a.hv - a.st - x)) := rfl
  obtain ⟨nm, hv, st, lim⟩ := a
  simp only at *
  unfold In64 at h1
  obtain ⟨hx1, hx2⟩ := hx
  have hrd : Hid (∀ o : Obj, Calls Tryz.prog 173 #[.slice (some ⟨w.heap.size + 1, 0, none⟩) 3 3] ((w.alloc o).alloc (.cells #[.int .i64 hv, .int .i64 (-st), .int .i64 (-x)] 2)) fun e w' => e = .returned (two64 (hv - st - x)) ∧ ((w.alloc o).alloc (.cells #[.int .i64 hv, .int .i64 (-st), .int .i64 (-x)] 2)) = w') := fun o => by
    have hb := Blk.new (w.alloc o) 2 #[.int .i64 hv, .int .i64 (-st), .int .i64 (-x)]
    rw [World.size_alloc] at hb
    exact hT.out _ _ ⟨rfl, fun _ => ⟨_, rfl, trivial, World.news_of_block hb⟩⟩
  have hbel : Hid (∀ o o' : Obj, Below w.heap.size w ((w.alloc o).alloc o')) := fun o o' => ((Below.refl _ _).alloc (Nat.le_refl _) _).alloc (by simp) _
  go_enter Tryz.func163, Tryz.ntmps163
  go_wp2_with fail
  refine (hrd.out _).mono ?_
  rintro e w2 ⟨rfl, rfl⟩
  by_cases hin : In64 (hv - st - x)
  · rw [hres.out.1 hin]
    unfold In64 at hin
    go_wp2
    go_ret
    refine ⟨?_, hbel.out _ _⟩
    rw [hfr.out]
    rfl
  · obtain ⟨h4, h5⟩ := hres.out.2 hin
    have H5 := Lib.hid h5
    rw [h4]
    clear h4 h5 hin
    go_wp2
    go_ret
    refine ⟨?_, hbel.out _ _⟩
    rw [H5.out]
    rfl

/-- a sum in a block of its own -/
def XB (w : World) (b : Nat) (x : Int) : Prop := Blk w b 2 #[.int .i64 x]

/-- what is given -/
def giveE (a : Ac) (x : Int) : Int := if In64 (a.hv - x) then (if 0 < x ∧ freeB a x = false then 9 else 0) else 2
def giveA (a : Ac) (x : Int) : Ac := if giveE a x = 0 then { a with hv := a.hv - x } else a
def asideE (a : Ac) (x : Int) : Int := if In64 (a.st + x) then (if 0 < x ∧ freeB a x = false then 9 else if a.st + x < 0 then 13 else 0) else 2
def asideA (a : Ac) (x : Int) : Ac := if asideE a x = 0 then { a with st := a.st + x } else a

/-- what a deed leaves: its account, and nothing else that was there -/
def DeedRet (q : Nat) (n : Int) (a' : Ac) (w : World) (e : Ending) (w' : World) : Prop := e = .returned (.int .i64 n) ∧ AcB w' q a' ∧ Fr (At1 q) w w'

theorem acb_cells {w : World} {q : Nat} {nm : List UInt8} {hv st lim : Int} (h : AcB w q ⟨nm, hv, st, lim⟩) :
    w.cell? ⟨q, 0, none⟩ = some (.string ⟨nm.toArray⟩) ∧ w.cell? ⟨q, 1, none⟩ = some (.int .i64 hv) ∧ w.cell? ⟨q, 2, none⟩ = some (.int .i64 st) ∧ w.cell? ⟨q, 3, none⟩ = some (.int .i64 lim) :=
  ⟨h.cell 0, h.cell 1, h.cell 2, h.cell 3⟩

set_option maxRecDepth 100000 in
set_option maxHeartbeats 2000000 in
theorem give1_any (q xb : Nat) (a : Ac) (x : Int) (w : World) (h : AcB w q a) (hx : XB w xb x) (hne : q ≠ xb) (ha : OkA a) (hxi : In64 x) :
    Calls Tryz.prog 174 #[.pointer (some ⟨q, 0, none⟩), .pointer (some ⟨xb, 0, none⟩)] w (DeedRet q (giveE a x) (giveA a x) w) := by
  have HL : Hid (∀ W : World, Calls Tryz.prog 175 #[.int .i64 a.hv, .int .i64 x] W fun e w' => e = .returned (two64 (a.hv - x)) ∧ w' = W) := fun W => (less_any a.hv x W ha.1 hxi).mono fun _ _ h => ⟨h.1, h.2.symm⟩
  have HCG : Hid (∀ W : World, 0 < x → Calls Tryz.prog 163 #[.agg #[.string ⟨a.name.toArray⟩, .int .i64 a.hv, .int .i64 a.st, .int .i64 a.lim], .int .i64 x] W fun e w' => e = .returned (.bool (freeB a x)) ∧ Below W.heap.size W w') := fun W h0 =>
    cangive_any a x W ha ⟨h0, by unfold In64 at hxi; omega⟩
  have HA := Lib.hid h
  have HX := Lib.hid hx
  have hql := h.lt
  have hxl := hx.lt
  have HE : Hid (giveE a x = (if In64 (a.hv - x) then (if 0 < x ∧ freeB a x = false then 9 else 0) else 2) ∧ giveA a x = if giveE a x = 0 then { a with hv := a.hv - x } else a) := ⟨rfl, rfl⟩
  generalize giveE a x = ge at *
  generalize giveA a x = ga at *
  generalize freeB a x = fb at *
  obtain ⟨nm, hv, st, lim⟩ := a
  simp only at *
  obtain ⟨c0, c1, c2, c3⟩ := acb_cells h
  have d0 := hx.cell 0
  simp only [List.getElem?_toArray, List.getElem?_cons_zero] at d0
  have HF : Hid (∀ W, Fr No w W → AcB W q ⟨nm, hv, st, lim⟩ ∧ (W.cell? ⟨q, 0, none⟩ = some (.string ⟨nm.toArray⟩) ∧ W.cell? ⟨q, 1, none⟩ = some (.int .i64 hv) ∧ W.cell? ⟨q, 2, none⟩ = some (.int .i64 st) ∧ W.cell? ⟨q, 3, none⟩ = some (.int .i64 lim) ∧ W.cell? ⟨xb, 0, none⟩ = some (.int .i64 x))) := fun W hW => by
    have hA : AcB W q ⟨nm, hv, st, lim⟩ := Blk.fr h hW (fun h => h)
    have hB : XB W xb x := Blk.fr hx hW (fun h => h)
    obtain ⟨e0, e1, e2, e3⟩ := acb_cells hA
    exact ⟨hA, e0, e1, e2, e3, hB.cell 0⟩
  have HEND : Hid (∀ W, Fr No w W → DeedRet q 0 ⟨nm, hv - x, st, lim⟩ w (.returned (.int .i64 0)) (W.setCell ⟨q, 1, none⟩ (.int .i64 (hv - x)))) := fun W hW => by
    have hA : AcB W q ⟨nm, hv, st, lim⟩ := Blk.fr h hW (fun h => h)
    exact ⟨rfl, hA.set_ 1 (.int .i64 (hv - x)), Fr.setCell (S := At1 q) (p := ⟨q, 1, none⟩) (hW.mono fun _ _ h => False.elim h) (fun _ => rfl) _⟩
  have HSTAY : Hid (∀ n W, Fr No w W → DeedRet q n ⟨nm, hv, st, lim⟩ w (.returned (.int .i64 n)) W) := fun n W hW => ⟨rfl, Blk.fr h hW (fun h => h), hW.mono fun _ _ h => False.elim h⟩
  unfold In64 at hxi
  clear h hx ha HA HX
  by_cases hin : In64 (hv - x)
  · rw [two64_in hin] at HL
    rw [if_pos hin] at HE
    unfold In64 at hin
    go_enter Tryz.func174, Tryz.ntmps174
    go_wp2_with fail
    go_quiet ((go_at_call 175; exact Calls.quiet_of_same (HL.out _)))
    by_cases hpos : 0 < x
    · have HP := Lib.hid hpos
      go_upto_region 4 with (fail)
      have hw1 : Fr No w (w.drewN nq).drew := ((Fr.refl _ _).drewN nq).drew
      cases fb
      · have HEE : Hid (ge = 9 ∧ ga = ⟨nm, hv, st, lim⟩) := by
          have h1 := HE.out
          rw [if_pos ⟨hpos, rfl⟩] at h1
          exact ⟨h1.1, by rw [h1.2, h1.1, if_neg (by decide)]⟩
        go_region_held3 (fun W => W.cell? ⟨q, 0, none⟩ = some (.string ⟨nm.toArray⟩) ∧ W.cell? ⟨q, 1, none⟩ = some (.int .i64 hv) ∧ W.cell? ⟨q, 2, none⟩ = some (.int .i64 st) ∧ W.cell? ⟨q, 3, none⟩ = some (.int .i64 lim) ∧ W.cell? ⟨xb, 0, none⟩ = some (.int .i64 x))
          (first | exact (HF.out _ hw1).2 | exact (HF.out _ hf3).2)
          (first | (go_at_call 163; refine (HCG.out _ HP.out).mono ?_; rintro e w3 ⟨rfl, hb3⟩; have hf3 := hw1.trans (Fr.of_below hb3 _)))
        go_wp2
        go_ret
        obtain ⟨rfl, rfl⟩ := HEE.out
        exact HSTAY.out 9 _ hf3
      · have HEE : Hid (ge = 0 ∧ ga = ⟨nm, hv - x, st, lim⟩) := by
          have h1 := HE.out
          rw [if_neg (by simp)] at h1
          exact ⟨h1.1, by rw [h1.2, h1.1, if_pos rfl]⟩
        go_region_held3 (fun W => W.cell? ⟨q, 0, none⟩ = some (.string ⟨nm.toArray⟩) ∧ W.cell? ⟨q, 1, none⟩ = some (.int .i64 hv) ∧ W.cell? ⟨q, 2, none⟩ = some (.int .i64 st) ∧ W.cell? ⟨q, 3, none⟩ = some (.int .i64 lim) ∧ W.cell? ⟨xb, 0, none⟩ = some (.int .i64 x))
          (first | exact (HF.out _ hw1).2 | exact (HF.out _ hf3).2)
          (first | (go_at_call 163; refine (HCG.out _ HP.out).mono ?_; rintro e w3 ⟨rfl, hb3⟩; have hf3 := hw1.trans (Fr.of_below hb3 _)))
        have c1' := (HF.out _ hf3).2.2.1
        have f1' := (HF.out _ hf3).1.frozen 1
        go_wp2
        go_ret
        obtain ⟨rfl, rfl⟩ := HEE.out
        exact HEND.out _ hf3
    · have HEE : Hid (ge = 0 ∧ ga = ⟨nm, hv - x, st, lim⟩) := by
        have h1 := HE.out
        rw [if_neg (fun h => hpos h.1)] at h1
        exact ⟨h1.1, by rw [h1.2, h1.1, if_pos rfl]⟩
      have hd : decide (0 < x) = false := decide_eq_false hpos
      have f1 := (HF.out _ (Fr.refl _ _)).1.frozen 1
      go_upto_region 4 with (fail)
      go_quiet (fail)
      go_wp2
      go_ret
      obtain ⟨rfl, rfl⟩ := HEE.out
      first | exact HEND.out _ (((Fr.refl _ _).drewN _).drewN _) | exact HEND.out _ ((Fr.refl _ _).drewN _)
  · rw [two64_out hin] at HL
    rw [if_neg hin] at HE
    have HEE : Hid (ge = 2 ∧ ga = ⟨nm, hv, st, lim⟩) := ⟨HE.out.1, by rw [HE.out.2, HE.out.1, if_neg (by decide)]⟩
    clear hin
    go_enter Tryz.func174, Tryz.ntmps174
    go_wp2_with fail
    go_quiet ((go_at_call 175; exact Calls.quiet_of_same (HL.out _)))
    go_wp2
    go_ret
    obtain ⟨rfl, rfl⟩ := HEE.out
    exact HSTAY.out 2 _ ((Fr.refl _ _).drewN _)
end Go.Proofs.YtjbeaoabhhaiiaaGreat
