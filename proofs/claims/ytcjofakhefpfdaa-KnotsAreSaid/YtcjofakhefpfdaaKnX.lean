/- The walk depth first: a place is met. -/
import Derived.Test.YtcjofakhefpfdaaKnX0
namespace Go.Proofs.Ytcjofakhefpfdaa
open Go.RowKit Go.My Go.Maps
set_option linter.unusedSimpArgs false
set_option linter.unusedVariables false
attribute [local go_sem ↓] Go.wp_at_zero Go.wp_at_succ

set_option maxHeartbeats 8000000 in
theorem meet_any (B : Nat) (w : World) (q : Nat) (p : Wp) (n : Nat) (G : List (List Int)) (s : Ts) (x : Nat) (h : WkS B w q p n G s) (hx : x < n) (hn : n ≤ 1000) (hm : s.met ≤ 1000000) (hl : s.loose.length ≤ 1000000) :
    Calls Try.prog 34 #[.pointer (some ⟨q, 0, none⟩), .int .i64 (x : Int)] w fun e w' => e = .returned (.agg #[.int .i64 (x : Int), .int .i64 0]) ∧ WkN B w q n G (s.meet x) w' := by
  have HB := Lib.hid h.blk
  have k1 := h.blk.cell 1
  have k2 := h.blk.cell 2
  have k3 := h.blk.cell 3
  have k4 := h.blk.cell 4
  have k5 := h.blk.cell 5
  simp only [List.getElem?_toArray, List.getElem?_cons_zero, List.getElem?_cons_succ] at k1 k2 k3 k4 k5
  have z3 := h.blk.frozen 3
  have z4 := h.blk.frozen 4
  obtain ⟨o1, ⟨y1, c1⟩, d1⟩ := h.seen.store x hx (.int .i64 ((s.met + 1 : Nat) : Int))
  obtain ⟨o2, ⟨y2, c2⟩, d2⟩ := h.low.store x hx (.int .i64 ((s.met + 1 : Nat) : Int))
  obtain ⟨o3, ⟨y3, c3⟩, d3⟩ := h.mark.store x hx (.bool true)
  have l1 := h.blk.lt
  have l2 := h.seen.lt p.ps rfl
  have l3 := h.low.lt p.pl rfl
  have l4 := h.mark.lt p.pb rfl
  obtain ⟨cu1, bs1⟩ := blk_ps h
  obtain ⟨cu2, bs2⟩ := blk_pl h
  obtain ⟨cu3, bs3⟩ := blk_pb h
  have e1 : q ≠ p.ps := Blk.ne_ h.blk bs1 (by decide)
  have e2 : q ≠ p.pl := Blk.ne_ h.blk bs2 (by decide)
  have e3 : q ≠ p.pb := Blk.ne_ h.blk bs3 (by decide)
  have e4 : p.ps ≠ p.pl := h.ap.1
  have e5 : p.ps ≠ p.pb := Blk.ne_ bs1 bs3 (by decide)
  have e6 : p.pl ≠ p.pb := Blk.ne_ bs2 bs3 (by decide)
  clear bs1 bs2
  have H := Lib.hid h
  have hxn : (x : Int) < (n : Int) := by omega
  have hw : wrap64 ((s.met : Int) + 1) = ((s.met + 1 : Nat) : Int) := by unfold wrap64; omega
  clear h
  go_enter Try.func34, Try.ntmps34
  go_wp2
  go_region_law (fail)
  all_goals
    have hv : ((s.met + 1 : Nat) : Int) = (s.met : Int) + 1 := by omega
    have la1 : (Value.slice p.la s.loose.length p.lc).ownBlock ≠ some q := H.out.loose.ne_ H.out.blk (by decide)
    have la3 : (Value.slice p.la s.loose.length p.lc).ownBlock ≠ some p.pb := H.out.loose.ne_ bs3 (by decide)
    have HBQ := Lib.hid (((((H.out.blk.set_ 3 (.int .i64 ((s.met : Int) + 1))).far (p := ⟨p.ps, x, none⟩) e1 (.int .i64 ((s.met : Int) + 1))).far (p := ⟨p.pl, x, none⟩) e2 (.int .i64 ((s.met : Int) + 1))).alloc (.cells #[.int .i64 0, .int .i64 0] 59)).drew)
    have HLO := Lib.hid (((((H.out.loose.setCell (p := ⟨q, 3, none⟩) la1 (.int .i64 ((s.met : Int) + 1))).setCell (p := ⟨p.ps, x, none⟩) H.out.ap.2.1 (.int .i64 ((s.met : Int) + 1))).setCell (p := ⟨p.pl, x, none⟩) H.out.ap.2.2 (.int .i64 ((s.met : Int) + 1))).alloc (.cells #[.int .i64 0, .int .i64 0] 59)).drew)
    have HMK := Lib.hid (((((H.out.mark.setCell (p := ⟨q, 3, none⟩) (by intro e; injection e with e; exact e3 e.symm) (.int .i64 ((s.met : Int) + 1))).setCell (p := ⟨p.ps, x, none⟩) (by intro e; injection e with e; exact e5 e.symm) (.int .i64 ((s.met : Int) + 1))).setCell (p := ⟨p.pl, x, none⟩) (by intro e; injection e with e; exact e6 e.symm) (.int .i64 ((s.met : Int) + 1))).alloc (.cells #[.int .i64 0, .int .i64 0] 59)).drew)
    have hX : Hid (s.loose.length + 1 ≤ maxLen ∧ (s.loose.length + 1) * 8 ≤ 140737488355328) := by
      refine ⟨?_, ?_⟩ <;> (try simp only [maxLen]) <;> omega
    obtain ⟨W0, hW0⟩ : ∃ W0 : World, W0 = ((((w.setCell ⟨q, 3, none⟩ (.int .i64 ((s.met : Int) + 1))).setCell ⟨p.ps, x, none⟩ (.int .i64 ((s.met : Int) + 1))).setCell ⟨p.pl, x, none⟩ (.int .i64 ((s.met : Int) + 1))).alloc (.cells #[.int .i64 0, .int .i64 0] 59)).drew := ⟨_, rfl⟩
    have hS0 : W0.heap.size = w.heap.size + 1 := by
      rw [hW0]
      show (World.alloc _ _).heap.size = _
      rw [World.size_alloc, World.size_setCell, World.size_setCell, World.size_setCell]
    have HV0 : Hid (Blk W0 w.heap.size 59 #[.int .i64 0, .int .i64 0]) := Lib.hid (by
      rw [hW0]
      have := Blk.new (((w.setCell ⟨q, 3, none⟩ (.int .i64 ((s.met : Int) + 1))).setCell ⟨p.ps, x, none⟩ (.int .i64 ((s.met : Int) + 1))).setCell ⟨p.pl, x, none⟩ (.int .i64 ((s.met : Int) + 1))) 59 #[.int .i64 0, .int .i64 0]
      simp only [World.size_setCell] at this
      exact this)
    rw [← hW0]
    rw [← hW0] at HBQ
    rw [← hW0] at HLO
    rw [← hW0] at HMK
    have HW0 := Lib.hid hW0
    have j4 := HBQ.out.cell 4
    simp [Array.getElem?_setIfInBounds] at j4
    clear hW0 k1 k2 k3 k4 k5 z3 z4 o1 o2 o3 c1 c2 c3 d1 d2 d3
    go_wp2_with (at_builtin; refine wpList_app _ rfl (.tmp 36) (.tmp 38) 26 26 rfl elI (HLO.out.alloc _) rfl (Src.of_new (cs := #[.int .i64 (x : Int)]) (t := 3) (w.heap.size + 1) (by rw [← hS0]; exact heap_alloc_new W0 _) Try.underlying26 rfl (by simp [Value.oneCell'])) rfl hX.out.1 hX.out.2 ?_; intro v1 w3 hown3 hfr3 hnew3; obtain ⟨A3, c3, rfl, _, _⟩ := hown3.form; have HB3 := Lib.hid ((HBQ.out.alloc (.cells #[.int .i64 (x : Int)] 3)).fr hfr3 la1); have i4 := HB3.out.frozen 4; have i5 := HB3.out.cell 5; have i40 := HB3.out.cell 4; simp [Array.getElem?_setIfInBounds] at i5 i40; have HM3 := Lib.hid ((HMK.out.alloc (.cells #[.int .i64 (x : Int)] 3)).fr hfr3 (fun i hi e => la3 (by injection hi with hi; subst hi; exact e))); obtain ⟨g1, ⟨yb, g2⟩, g3⟩ := HM3.out.store x hx (.bool true); have HV3 := Lib.hid ((HV0.out.alloc (.cells #[.int .i64 (x : Int)] 3)).fr hfr3 (fun e => HLO.out.ne_ HV0.out (by decide) e)); have n0 := HV3.out.cell 0; have n1 := HV3.out.cell 1; have m0 := HV3.out.frozen 0; have m1 := HV3.out.frozen 1; simp only [List.getElem?_toArray, List.getElem?_cons_zero, List.getElem?_cons_succ] at n0 n1; have b1 := HB3.out.lt; have b2 := HM3.out.lt p.pb rfl; have b3 := HV3.out.lt; have HG1 := Lib.hid g1; have HO3 := Lib.hid hown3; have HF3 := Lib.hid hfr3; have HN3 := Lib.hid hnew3; clear g1 hown3 hfr3 hnew3)
    refine bodyPost_ret (v := .agg #[.int .i64 (x : Int), .int .i64 0]) (by simp [results, Try.results34, go_sem, n0, n1]) rfl ?_
    exact ⟨rfl, meet_mem H.out hx HW0.out HO3.out HF3.out HN3.out⟩
end Go.Proofs.Ytcjofakhefpfdaa
