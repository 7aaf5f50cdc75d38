/- The walk depth first: from one place on. -/
import Derived.Test.YtcpgamidimfflaaGreatQ27
import Derived.Deep.LoopGhost
import Derived.WalkMore
import Derived.Deep.QuietTactic
namespace Go.Proofs.YtcpgamidimfflaaGreat
open Go.RowKit Go.My Go.Maps
set_option linter.unusedSimpArgs false
set_option linter.unusedVariables false
attribute [local go_sem ↓] Go.wp_at_zero Go.wp_at_succ
theorem elVi : El Tryz.prog 294 292 2 16 := ⟨Tryz.underlying294, by
  have h : (Tryz.prog.info? 292).map (fun i => (i.zero, i.size, i.bytes)) = some (some (.agg #[.int .i64 0, .int .i64 0]), 2, 16) := by kernel_rfl
  obtain ⟨i, hi, hz, hs, hb⟩ := info_parts h
  exact ⟨i, _, hi, hz, hs, hb, rfl⟩, by omega⟩
theorem on_above {n : Nat} {G : List (List Int)} {s : Ts} {v k u j : Nat} {R : List (Nat × Nat)} (h : TI n (gm G) s ((v, k) :: (u, j) :: R)) : u < n ∧ v ≠ u := by
  have hu := h.pl u j (List.mem_cons_of_mem _ List.mem_cons_self)
  refine ⟨h.rng u (h.lseen u hu), fun e => ?_⟩
  have hp := h.pd
  rw [List.pairwise_cons] at hp
  have h1 : s.seen u < s.seen v := hp.1 (u, j) List.mem_cons_self
  rw [e] at h1
  exact Nat.lt_irrefl _ h1
theorem pam_top {B : Nat} {w : World} {g pc : Nat} {R : List (Nat × Nat)} {v k : Nat} (h : PaM B w (some ⟨g, 0, none⟩) pc ((v, k) :: R)) : w.cell? ⟨g, R.length * 2, none⟩ = some (.int .i64 (v : Int)) := by
  obtain ⟨g', hge, _, _, _, d3, _⟩ := h.last
  obtain rfl : g = g' := by injection hge with e; injection e
  exact d3
theorem low_cells {B : Nat} {w : World} {q : Nat} {p : Wp} {n : Nat} {G : List (List Int)} {s : Ts} {v u : Nat} (h : WkS B w q p n G s) (hv : v < n) (hu : u < n) (hvu : v ≠ u) :
    (w.cell? ⟨q, 2, none⟩ = some (.slice (some ⟨p.pl, 0, none⟩) n n) ∧ w.cell? ⟨p.pl, v, none⟩ = some (.int .i64 (s.low v : Int))) ∧ w.cell? ⟨p.pl, u, none⟩ = some (.int .i64 (s.low u : Int)) ∧ w.frozen? ⟨p.pl, u, none⟩ = false ∧
    p.pl ≠ q ∧ (∀ x, (w.setCell ⟨p.pl, u, none⟩ x).cell? ⟨p.pl, v, none⟩ = w.cell? ⟨p.pl, v, none⟩) := by
  obtain ⟨cu2, bs2⟩ := blk_pl h
  have d2 := h.blk.cell 2
  simp only [List.getElem?_toArray, List.getElem?_cons_zero, List.getElem?_cons_succ] at d2
  have key : ∀ z, z < n → w.cell? ⟨p.pl, z, none⟩ = some (.int .i64 (s.low z : Int)) := fun z hz => by
    obtain ⟨ad6, u6, he6, _, hu6, d6⟩ := h.low.rd.at_ (k := z) hz
    injection he6 with he6
    subst he6
    rw [ns_at _ _ _ hz] at hu6
    injection hu6 with hu6
    subst hu6
    rwa [add_zero] at d6
  refine ⟨⟨d2, key v hv⟩, key u hu, (h.low.store u hu (.int .i64 0)).2.2, fun e => Blk.ne_ h.blk bs2 (by decide) e.symm, fun x => ?_⟩
  rw [(bs2.set_ u x).cell v, bs2.cell v, Array.getElem?_setIfInBounds, if_neg (fun e => hvu e.symm)]
theorem min_cast (a b : Nat) : (min (a : Int) (b : Int)) = ((min a b : Nat) : Int) := by omega
set_option maxRecDepth 100000 in
set_option maxHeartbeats 20000000 in
theorem from_any (B : Nat) (w : World) (q : Nat) (p : Wp) (n : Nat) (G : List (List Int)) (s : Ts) (x : Nat) (h : WkS B w q p n G s) (hP : PlK G) (ht : TI n (gm G) s []) (hc : s.met + uns s n = n) (h0 : s.seen x = 0) (hx : x < n) (hn : n ≤ 1000) (hB : B ≤ w.heap.size) :
    Calls Tryz.prog 206 #[.pointer (some ⟨q, 0, none⟩), .int .i64 (x : Int)] w fun e w' => e = .returned (.tuple #[]) ∧ ∃ s' p', WkS B w' q p' n G s' ∧ TI n (gm G) s' [] ∧ s'.met + uns s' n = n ∧ (∀ y, s.seen y ≠ 0 → s'.seen y ≠ 0) ∧ s'.seen x ≠ 0 ∧ Fr (fun k => B ≤ k) w w' := by
  have HME := Lib.hid (meet_any B w q p n G s x h hx hn (by omega) (by have := TI.loose_le ht; omega))
  have H := Lib.hid h
  have HT := Lib.hid ht
  have HP := Lib.hid hP
  have HC := Lib.hid hc
  have HH0 := Lib.hid h0
  have HBW := Lib.hid hB
  clear h ht hP hc h0 hB
  go_enter Tryz.func206, Tryz.ntmps206
  go_wp2
  go_step3
  go_wp2_with (go_at_call 230; refine HME.out.mono ?_; rintro _ w1 ⟨rfl, hw1⟩; have HW1 := Lib.hid hw1; clear hw1)
  go_step3
  go_wp2
  have HO : Hid (FrO B w q n G s x (2 * uns (s.meet x) n + 1) (.slice (some ⟨w1.heap.size, 0, none⟩) 1 1) (w1.alloc (.cells #[.int .i64 (x : Int), .int .i64 0] 292))) := Lib.hid (by
    obtain ⟨p1, hs1, hf1⟩ := HW1.out
    have hum := uns_meet hx HH0.out
    have hcn := HC.out
    have b1 := hs1.new.1
    have b2 := hs1.blk.lt
    refine ⟨s.meet x, [(x, 0)], p1, some ⟨w1.heap.size, 0, none⟩, 1, rfl, ⟨⟨⟨rfl, .inr ⟨w1.heap.size, 1, #[.int .i64 (x : Int), .int .i64 0], rfl, Blk.new w1 _ _, Nat.le_refl _, by simp [maxLen], Nat.le_refl _, rfl⟩⟩, fun k hk => ?_⟩, hs1.over ((Fr.refl _ _).alloc _), HT.out.meet hx HH0.out (fun g k h => nomatch h), ?_, fun y hy => ?_, ?_, (hf1.mono fun _ _ h => h.1).alloc _⟩, rfl⟩
    · have hk : some w1.heap.size = some k := hk
      injection hk with hk
      omega
    · show s.met + 1 + uns (s.meet x) n = n
      omega
    · show upN s.seen x (s.met + 1) y ≠ 0
      by_cases e : y = x
      · rw [e, upN_at]; omega
      · rw [upN_ne _ _ e]; exact hy
    · show upN s.seen x (s.met + 1) x ≠ 0
      rw [upN_at]; omega)
  go_loopg [4] (2 * uns (s.meet x) n + 1) (fun k iv wr => FrO B w q n G s x k iv wr)
  case atStart => exact HO.out
  case round =>
    obtain ⟨s1, P, p1, pa, pc, rfl, hw, rfl⟩ := hrel
    have HW := Lib.hid hw
    cases P with
    | nil =>
      clear hw
      go_wp2
      (try rw [Exit.noGoto_normal])
      refine bodyPost_end (v := .tuple #[]) ?_ rfl ?_
      · simp [results, Tryz.results206, go_sem]
      exact ⟨rfl, s1, p1, HW.out.mem, HW.out.ti, HW.out.cnt, HW.out.old, HW.out.fst, HW.out.fr⟩
    | cons e R =>
      obtain ⟨v, j⟩ := e
      obtain ⟨g, rfl, hg1, hg2, ⟨cv, hg3⟩, hg4, hg5, hg6, hg7⟩ := hw.way.last
      have hRl : R.length + 1 ≤ n := TI.path_le hw.ti
      have hRw : wrap64 (R.length : Int) = (R.length : Int) := by unfold wrap64; omega
      clear hw hg7 hg4 hg5 hg6 hg3
      go_wp2
      go_loopg [4] ((gm G v).length - j) (fun k iv wr => FrI B w q n G s x v R g pc (uns s1 n) k iv wr)
      case atStart => exact ⟨s1, p1, j, rfl, HW.out, rfl, rfl⟩
      case round =>
        clear HW
        obtain ⟨s2, p2, i, rfl, hw2, hU, rfl⟩ := hrel
        have HU := Lib.hid hU
        have HW2 := Lib.hid hw2
        obtain ⟨g', hge, k1, k2, ⟨cv, k3⟩, k4, k5, k6, k7⟩ := hw2.way.last
        obtain rfl : g = g' := by injection hge with e; injection e
        have hvn : v < n := hw2.ti.rng v (hw2.ti.lseen v (hw2.ti.pl v _ List.mem_cons_self))
        have hGl := hw2.mem.gl
        have c0 := hw2.mem.blk.cell 0
        simp only [List.getElem?_toArray, List.getElem?_cons_zero] at c0
        obtain ⟨ad, A', c', hga, hrow, hrd, hlc, hcm⟩ := hw2.mem.g.at_ v (by omega)
        rw [← gat_at (by omega)] at hrow hrd hlc
        rw [hga] at c0
        have HK7 := Lib.hid k7
        have HRD := Lib.hid hrd
        have hvnI : (v : Int) < (n : Int) := by omega
        clear hw2 hU k7 hrd hge
        by_cases hij : i < (gat G v).length
        · have hijI : (i : Int) < ((gat G v).length : Int) := by omega
          have hij2 : i < (gm G v).length := by rw [gm_len]; exact hij
          obtain ⟨hy1, hy2⟩ := gm_at HP.out v i hij2
          obtain ⟨ad2, u, rfl, _, hu, hxc⟩ := HRD.out.at_ hij
          rw [is_at _ i hij] at hu
          injection hu with hu
          subst hu
          rw [List.getElem?_eq_getElem hij] at hy1
          injection hy1 with hy1
          rw [hy1] at hxc
          have hmaxi : ((i : Int) + 1) ≤ 9223372036854775807 := by
            have : i < maxLen := by omega
            simp only [maxLen] at this
            omega
          have hwi : wrap64 ((i : Int) + 1) = ((i + 1 : Nat) : Int) := by unfold wrap64; omega
          obtain ⟨cu1, bs1⟩ := blk_ps HW2.out.mem
          have eqg : q ≠ g := Blk.ne_ HW2.out.mem.blk k3 (by decide)
          have epg : p2.ps ≠ g := Blk.ne_ bs1 k3 (by decide)
          have c1 := HW2.out.mem.blk.cell 1
          have c5 := HW2.out.mem.blk.cell 5
          simp only [List.getElem?_toArray, List.getElem?_cons_zero, List.getElem?_cons_succ] at c1 c5
          generalize hyy : (gm G v)[i] = y at *
          have HYY : Hid (∃ h : i < (gm G v).length, (gm G v)[i] = y) := Lib.hid ⟨hij2, hyy⟩
          have hyn : y < n := by omega
          have hynI : (y : Int) < (n : Int) := by omega
          obtain ⟨ad3, us, he3, _, hu3, hsc⟩ := HW2.out.mem.seen.rd.at_ (k := y) hyn
          injection he3 with he3
          subst he3
          rw [ns_at _ _ _ hyn] at hu3
          injection hu3 with hu3
          subst hu3
          rw [add_zero] at hsc
          have HBP : Hid (∀ k, PaM B ((wr.drewN k).setCell ⟨g, R.length * 2 + 1, none⟩ (.int .i64 ((i : Int) + 1))) (some ⟨g, 0, none⟩) pc ((v, i + 1) :: R) ∧ WkS B ((wr.drewN k).setCell ⟨g, R.length * 2 + 1, none⟩ (.int .i64 ((i : Int) + 1))) q p2 n G s2 ∧ Fr (fun k => B ≤ k) w ((wr.drewN k).setCell ⟨g, R.length * 2 + 1, none⟩ (.int .i64 ((i : Int) + 1)))) := Lib.hid fun k => by
            have := (HW2.out.over ((Fr.refl No wr).drewN k)).bump
            rwa [show ((i + 1 : Nat) : Int) = (i : Int) + 1 by omega] at this
          have HMT : Hid (∀ W, WkS B W q p2 n G s2 → Calls Tryz.prog 230 #[.pointer (some ⟨q, 0, none⟩), .int .i64 (y : Int)] W fun e w' => e = .returned (.agg #[.int .i64 (y : Int), .int .i64 0]) ∧ WkN B W q n G (s2.meet y) w') := Lib.hid fun W hW => meet_any B W q p2 n G s2 y hW hyn hn (by have := HW2.out.cnt; omega) (by have := TI.loose_le HW2.out.ti; omega)
          have hX : Hid ((R.length + 1) + 1 ≤ maxLen ∧ ((R.length + 1) + 1) * 16 ≤ 140737488355328) := by
            refine ⟨?_, ?_⟩ <;> (try simp only [maxLen]) <;> omega
          clear hyy hy1 hy2 hmaxi hij hij2
          by_cases hs0 : s2.seen y = 0
          · have HS0 := Lib.hid hs0
            have hs0I : (s2.seen y : Int) = 0 := by omega
            rw [hs0I] at hsc
            clear hs0 hs0I
            go_wp2
            go_quiet (fail)
            go_wp2
            go_quiet (fail)
            go_wp2_with (first
              | (go_at_call 230; refine (HMT.out _ (HBP.out _).2.1).mono ?_; rintro _ w6 ⟨rfl, p6, hs6, hf6⟩; have HPA := Lib.hid ((HBP.out _).1.fr hf6); have HF6 := Lib.hid ((HBP.out _).2.2.trans' hf6 fun i hi _ => hi.1); have HS6 := Lib.hid hs6; clear hs6 hf6)
              | (at_builtin; refine wpList_app _ rfl (.tmp 68) (.tmp 72) 294 294 rfl elVi (HPA.out.1.alloc _) rfl (Src.of_new (cs := #[.int .i64 (y : Int), .int .i64 0]) (t := 292) w6.heap.size (heap_alloc_new w6 _) Tryz.underlying294 rfl (by simp [Value.oneCell'])) rfl hX.out.1 hX.out.2 ?_; intro v1 w7 hown7 hfr7 hnew7; obtain ⟨A7, c7, rfl, _, _⟩ := hown7.form; have HO7 := Lib.hid hown7; have HF7 := Lib.hid hfr7; have HN7 := Lib.hid hnew7; clear hown7 hfr7 hnew7))
            go_roundg (2 * uns (s2.meet y) n + (R.length + 2))
            case measure =>
              have := uns_meet hyn HS0.out
              have := HU.out
              omega
            case rel =>
              have hum := uns_meet hyn HS0.out
              have hcn := HW2.out.cnt
              obtain ⟨m1, m2, m3⟩ := push_mem (P := (v, i + 1) :: R) HPA.out HS6.out HF6.out (Nat.le_trans HW2.out.mem.new.1 (Nat.le_of_lt HS6.out.blk.lt)) HO7.out HF7.out HN7.out
              obtain ⟨hij2, hyy⟩ := HYY.out
              have hti := from_meet HW2.out.ti hij2 (by rw [hyy]; exact HS0.out) (fun a ha => by have := gm_lt HP.out a; rwa [hGl] at this)
              rw [hyy] at hti
              exact ⟨s2.meet y, (y, 0) :: (v, i + 1) :: R, p6, A7, c7, rfl, ⟨m1, m2, hti, by show s2.met + 1 + uns (s2.meet y) n = n; omega, fun z hz => by
                show upN s2.seen y (s2.met + 1) z ≠ 0
                by_cases e : z = y
                · rw [e, upN_at]; omega
                · rw [upN_ne _ _ e]; exact HW2.out.old z hz, by
                show upN s2.seen y (s2.met + 1) x ≠ 0
                by_cases e : x = y
                · rw [e, upN_at]; omega
                · rw [upN_ne _ _ e]; exact HW2.out.fst, m3⟩, rfl⟩
          · have HS0 := Lib.hid hs0
            have hs0I : ¬ (s2.seen y : Int) = 0 := by omega
            obtain ⟨ad4, um, he4, _, hu4, hmc⟩ := HW2.out.mem.mark.rd.at_ (k := y) hyn
            injection he4 with he4
            subst he4
            rw [bl_at _ _ _ hyn] at hu4
            injection hu4 with hu4
            subst hu4
            rw [add_zero] at hmc
            obtain ⟨cu3, bs3⟩ := blk_pb HW2.out.mem
            have ebg : p2.pb ≠ g := Blk.ne_ bs3 k3 (by decide)
            by_cases hly : y ∈ s2.loose
            · have HLY := Lib.hid hly
              have hcl : s2.loose.contains y = true := List.contains_iff_mem.2 hly
              rw [hcl] at hmc
              obtain ⟨cu2, bs2⟩ := blk_pl HW2.out.mem
              have elq : p2.pl ≠ q := fun e => Blk.ne_ HW2.out.mem.blk bs2 (by decide) e.symm
              have elg : p2.pl ≠ g := Blk.ne_ bs2 k3 (by decide)
              have els : p2.pl ≠ p2.ps := fun e => HW2.out.mem.ap.1 e.symm
              have HSC : Hid (∀ k, (((wr.drewN k).setCell ⟨g, R.length * 2 + 1, none⟩ (.int .i64 ((i : Int) + 1))).cell? ⟨q, 1, none⟩ = some (.slice (some ⟨p2.ps, 0, none⟩) n n) ∧ ((wr.drewN k).setCell ⟨g, R.length * 2 + 1, none⟩ (.int .i64 ((i : Int) + 1))).cell? ⟨q, 2, none⟩ = some (.slice (some ⟨p2.pl, 0, none⟩) n n) ∧ ((wr.drewN k).setCell ⟨g, R.length * 2 + 1, none⟩ (.int .i64 ((i : Int) + 1))).cell? ⟨g, R.length * 2, none⟩ = some (.int .i64 (v : Int)) ∧ ((wr.drewN k).setCell ⟨g, R.length * 2 + 1, none⟩ (.int .i64 ((i : Int) + 1))).cell? ⟨p2.ps, y, none⟩ = some (.int .i64 (s2.seen y : Int))) ∧ ((wr.drewN k).setCell ⟨g, R.length * 2 + 1, none⟩ (.int .i64 ((i : Int) + 1))).cell? ⟨p2.pl, v, none⟩ = some (.int .i64 (s2.low v : Int)) ∧ ((wr.drewN k).setCell ⟨g, R.length * 2 + 1, none⟩ (.int .i64 ((i : Int) + 1))).frozen? ⟨p2.pl, v, none⟩ = false) := Lib.hid fun k => by
                obtain ⟨a1, a2, _⟩ := HBP.out k
                have d1 := a2.blk.cell 1
                have d2 := a2.blk.cell 2
                simp only [List.getElem?_toArray, List.getElem?_cons_zero, List.getElem?_cons_succ] at d1 d2
                obtain ⟨g', hge, _, _, _, d3, _⟩ := a1.last
                obtain rfl : g = g' := by injection hge with e; injection e
                have d4 := (a2.seen.store y hyn (.int .i64 0))
                obtain ⟨ad5, u5, he5, _, hu5, d5⟩ := a2.seen.rd.at_ (k := y) hyn
                injection he5 with he5
                subst he5
                rw [ns_at _ _ _ hyn] at hu5
                injection hu5 with hu5
                subst hu5
                rw [add_zero] at d5
                obtain ⟨ad6, u6, he6, _, hu6, d6⟩ := a2.low.rd.at_ (k := v) hvn
                injection he6 with he6
                subst he6
                rw [ns_at _ _ _ hvn] at hu6
                injection hu6 with hu6
                subst hu6
                rw [add_zero] at d6
                exact ⟨⟨d1, d2, d3, d5⟩, d6, (a2.low.store v hvn (.int .i64 0)).2.2⟩
              clear hs0 hcl hly
              go_wp2
              go_quiet (fail)
              go_wp2
              go_quiet (fail)
              go_wp2
              rename_i nq1 nq2
              obtain ⟨kq, hkq⟩ : ∃ kq, kq = nq1 + nq := ⟨_, rfl⟩
              rw [← hkq]
              obtain ⟨hS1, hlow, hlz⟩ := HSC.out kq
              have HB5 := Lib.hid (HBP.out kq)
              generalize (wr.drewN kq).setCell ⟨g, R.length * 2 + 1, none⟩ (.int .i64 ((i : Int) + 1)) = W5 at *
              refine wp_region_held_drew (S := fun W => W.cell? ⟨q, 1, none⟩ = some (.slice (some ⟨p2.ps, 0, none⟩) n n) ∧ W.cell? ⟨q, 2, none⟩ = some (.slice (some ⟨p2.pl, 0, none⟩) n n) ∧ W.cell? ⟨g, R.length * 2, none⟩ = some (.int .i64 (v : Int)) ∧ W.cell? ⟨p2.ps, y, none⟩ = some (.int .i64 (s2.seen y : Int))) (by kernel_rfl) hS1 (fun hH0 => ?_)
              refine wpAnyH_take (i := 0) (v := ?_) rfl (by kernel_rfl) (by kernel_rfl) (by kernel_rfl) (fun _ _ _ h => h) (Or.inl ⟨by rfl, ?_⟩) hH0 ?_
              rotate_left
              · (intro w hSw; (try dsimp only at hSw); obtain ⟨hs1, hs2, hs3, hs4⟩ := hSw; go_simp; try with_reducible rfl)
              (try simp only [Act.put, List.getElem_toArray, List.getElem_cons_zero, List.getElem_cons_succ, List.setIfInBounds_toArray, List.set_cons_zero, List.set_cons_succ])
              refine wpAnyH_take (i := 1) (v := ?_) rfl (by kernel_rfl) (by kernel_rfl) (by kernel_rfl) (fun _ _ _ h => h) (Or.inl ⟨by rfl, ?_⟩) hH0 ?_
              rotate_left
              · (intro w hSw; (try dsimp only at hSw); obtain ⟨hs1, hs2, hs3, hs4⟩ := hSw; go_simp; try with_reducible rfl)
              (try simp only [Act.put, List.getElem_toArray, List.getElem_cons_zero, List.getElem_cons_succ, List.setIfInBounds_toArray, List.set_cons_zero, List.set_cons_succ])
              refine wpAnyH_take (i := 2) (v := ?_) rfl (by kernel_rfl) (by kernel_rfl) (by kernel_rfl) (fun _ _ _ h => h) (Or.inl ⟨by rfl, ?_⟩) hH0 ?_
              rotate_left
              · (intro w hSw; (try dsimp only at hSw); obtain ⟨hs1, hs2, hs3, hs4⟩ := hSw; go_simp; try with_reducible rfl)
              (try simp only [Act.put, List.getElem_toArray, List.getElem_cons_zero, List.getElem_cons_succ, List.setIfInBounds_toArray, List.set_cons_zero, List.set_cons_succ])
              refine wpAnyH_take (i := 3) (v := ?_) rfl (by kernel_rfl) (by kernel_rfl) (by kernel_rfl) (fun _ _ _ h => h) (Or.inl ⟨by rfl, ?_⟩) hH0 ?_
              rotate_left
              · (intro w hSw; (try dsimp only at hSw); obtain ⟨hs1, hs2, hs3, hs4⟩ := hSw; go_simp; try with_reducible rfl)
              (try simp only [Act.put, List.getElem_toArray, List.getElem_cons_zero, List.getElem_cons_succ, List.setIfInBounds_toArray, List.set_cons_zero, List.set_cons_succ])
              refine wpAnyH_take (i := 4) (v := ?_) rfl (by kernel_rfl) (by kernel_rfl) (by kernel_rfl) (fun _ _ _ h => h) (Or.inl ⟨by rfl, ?_⟩) hH0 ?_
              rotate_left
              · (intro w hSw; (try dsimp only at hSw); obtain ⟨hs1, hs2, hs3, hs4⟩ := hSw; go_simp; try with_reducible rfl)
              (try simp only [Act.put, List.getElem_toArray, List.getElem_cons_zero, List.getElem_cons_succ, List.setIfInBounds_toArray, List.set_cons_zero, List.set_cons_succ])
              refine wpAnyH_take (i := 5) (v := ?_) rfl (by kernel_rfl) (by kernel_rfl) (by kernel_rfl) (fun _ _ _ h => h) (Or.inl ⟨by rfl, ?_⟩) hH0 ?_
              rotate_left
              · (intro w hSw; (try dsimp only at hSw); obtain ⟨hs1, hs2, hs3, hs4⟩ := hSw; go_simp; try with_reducible rfl)
              (try simp only [Act.put, List.getElem_toArray, List.getElem_cons_zero, List.getElem_cons_succ, List.setIfInBounds_toArray, List.set_cons_zero, List.set_cons_succ])
              refine wpAnyH_take (i := 6) (v := ?_) rfl (by kernel_rfl) (by kernel_rfl) (by kernel_rfl) (fun _ _ _ h => h) (Or.inl ⟨by rfl, ?_⟩) hH0 ?_
              rotate_left
              · (intro w hSw; (try dsimp only at hSw); obtain ⟨hs1, hs2, hs3, hs4⟩ := hSw; go_simp; try with_reducible rfl)
              (try simp only [Act.put, List.getElem_toArray, List.getElem_cons_zero, List.getElem_cons_succ, List.setIfInBounds_toArray, List.set_cons_zero, List.set_cons_succ])
              refine wpAnyH_take (i := 7) (v := ?_) rfl (by kernel_rfl) (by kernel_rfl) (by kernel_rfl) (fun _ _ _ h => h) (Or.inl ⟨by rfl, ?_⟩) hH0 ?_
              rotate_left
              · (intro w hSw; (try dsimp only at hSw); obtain ⟨hs1, hs2, hs3, hs4⟩ := hSw; go_simp; try with_reducible rfl)
              (try simp only [Act.put, List.getElem_toArray, List.getElem_cons_zero, List.getElem_cons_succ, List.setIfInBounds_toArray, List.set_cons_zero, List.set_cons_succ])
              refine wpAnyH_take (i := 8) (v := ?_) rfl (by kernel_rfl) (by kernel_rfl) (by kernel_rfl) (fun _ _ _ h => h) (Or.inl ⟨by rfl, ?_⟩) hH0 ?_
              rotate_left
              · (intro w hSw; (try dsimp only at hSw); obtain ⟨hs1, hs2, hs3, hs4⟩ := hSw; go_simp; try with_reducible rfl)
              (try simp only [Act.put, List.getElem_toArray, List.getElem_cons_zero, List.getElem_cons_succ, List.setIfInBounds_toArray, List.set_cons_zero, List.set_cons_succ])
              refine wpAnyH_take (i := 9) (v := ?_) rfl (by kernel_rfl) (by kernel_rfl) (by kernel_rfl) (fun _ _ _ h => h) (Or.inl ⟨by rfl, ?_⟩) hH0 ?_
              rotate_left
              · (intro w hSw; (try dsimp only at hSw); obtain ⟨hs1, hs2, hs3, hs4⟩ := hSw; go_simp; try with_reducible rfl)
              (try simp only [Act.put, List.getElem_toArray, List.getElem_cons_zero, List.getElem_cons_succ, List.setIfInBounds_toArray, List.set_cons_zero, List.set_cons_succ])
              refine wpAnyH_take (i := 10) (v := ?_) rfl (by kernel_rfl) (by kernel_rfl) (by kernel_rfl) (fun _ _ _ h => h) (Or.inl ⟨by rfl, ?_⟩) hH0 ?_
              rotate_left
              · (intro w hSw; (try dsimp only at hSw); obtain ⟨hs1, hs2, hs3, hs4⟩ := hSw; go_simp; try with_reducible rfl)
              (try simp only [Act.put, List.getElem_toArray, List.getElem_cons_zero, List.getElem_cons_succ, List.setIfInBounds_toArray, List.set_cons_zero, List.set_cons_succ])
              refine wpAnyH_take (i := 11) (v := ?_) rfl (by kernel_rfl) (by kernel_rfl) (by kernel_rfl) (fun _ _ _ h => h) (Or.inl ⟨by rfl, ?_⟩) hH0 ?_
              rotate_left
              · (intro w hSw; (try dsimp only at hSw); obtain ⟨hs1, hs2, hs3, hs4⟩ := hSw; go_simp; try with_reducible rfl)
              (try simp only [Act.put, List.getElem_toArray, List.getElem_cons_zero, List.getElem_cons_succ, List.setIfInBounds_toArray, List.set_cons_zero, List.set_cons_succ])
              refine wpAnyH_take (i := 12) (v := ?_) rfl (by kernel_rfl) (by kernel_rfl) (by kernel_rfl) (fun _ _ _ h => h) (Or.inl ⟨by rfl, ?_⟩) hH0 ?_
              rotate_left
              · (intro w hSw; (try dsimp only at hSw); obtain ⟨hs1, hs2, hs3, hs4⟩ := hSw; go_simp; try with_reducible rfl)
              (try simp only [Act.put, List.getElem_toArray, List.getElem_cons_zero, List.getElem_cons_succ, List.setIfInBounds_toArray, List.set_cons_zero, List.set_cons_succ])
              refine wpAnyH_take (i := 13) (v := ?_) rfl (by kernel_rfl) (by kernel_rfl) (by kernel_rfl) (fun _ _ _ h => h) (Or.inl ⟨by rfl, ?_⟩) hH0 ?_
              rotate_left
              · (intro w hSw; (try dsimp only at hSw); obtain ⟨hs1, hs2, hs3, hs4⟩ := hSw; go_simp; try with_reducible rfl)
              (try simp only [Act.put, List.getElem_toArray, List.getElem_cons_zero, List.getElem_cons_succ, List.setIfInBounds_toArray, List.set_cons_zero, List.set_cons_succ])
              refine wpAnyH_take (i := 14) (v := ?_) rfl (by kernel_rfl) (by kernel_rfl) (by kernel_rfl) (fun _ _ _ h => h) (Or.inl ⟨by rfl, ?_⟩) hH0 ?_
              rotate_left
              · (intro w hSw; (try dsimp only at hSw); obtain ⟨hs1, hs2, hs3, hs4⟩ := hSw; go_simp; try with_reducible rfl)
              (try simp only [Act.put, List.getElem_toArray, List.getElem_cons_zero, List.getElem_cons_succ, List.setIfInBounds_toArray, List.set_cons_zero, List.set_cons_succ])
              refine wpAnyH_take (i := 15) (v := ?_) rfl (by kernel_rfl) (by kernel_rfl) (by kernel_rfl) (fun _ _ _ h => h) (Or.inl ⟨by rfl, ?_⟩) hH0 ?_
              rotate_left
              · (intro w hSw; (try dsimp only at hSw); obtain ⟨hs1, hs2, hs3, hs4⟩ := hSw; go_simp; try with_reducible rfl)
              (try simp only [Act.put, List.getElem_toArray, List.getElem_cons_zero, List.getElem_cons_succ, List.setIfInBounds_toArray, List.set_cons_zero, List.set_cons_succ])
              refine wpAnyH_take (i := 16) (v := ?_) rfl (by kernel_rfl) (by kernel_rfl) (by kernel_rfl) (fun _ _ _ h => h) (Or.inl ⟨by rfl, ?_⟩) hH0 ?_
              rotate_left
              · (intro w hSw; (try dsimp only at hSw); obtain ⟨hs1, hs2, hs3, hs4⟩ := hSw; go_simp; try with_reducible rfl)
              (try simp only [Act.put, List.getElem_toArray, List.getElem_cons_zero, List.getElem_cons_succ, List.setIfInBounds_toArray, List.set_cons_zero, List.set_cons_succ])
              refine wpAnyH_take (i := 18) (v := ?_) rfl (by kernel_rfl) (by kernel_rfl) (by kernel_rfl) (fun _ _ _ h => h) (Or.inl ⟨by rfl, ?_⟩) hH0 ?_
              rotate_left
              · (intro w hSw; (try dsimp only at hSw); obtain ⟨hs1, hs2, hs3, hs4⟩ := hSw; go_simp; try with_reducible rfl)
              (try simp only [Act.put, List.getElem_toArray, List.getElem_cons_zero, List.getElem_cons_succ, List.setIfInBounds_toArray, List.set_cons_zero, List.set_cons_succ])
              refine wpAnyH_take (i := 19) (v := ?_) rfl (by kernel_rfl) (by kernel_rfl) (by kernel_rfl) (fun _ _ _ h => h) (Or.inl ⟨by rfl, ?_⟩) hH0 ?_
              rotate_left
              · (intro w hSw; (try dsimp only at hSw); obtain ⟨hs1, hs2, hs3, hs4⟩ := hSw; go_simp; try with_reducible rfl)
              (try simp only [Act.put, List.getElem_toArray, List.getElem_cons_zero, List.getElem_cons_succ, List.setIfInBounds_toArray, List.set_cons_zero, List.set_cons_succ])
              refine wpAnyH_take (i := 20) (v := ?_) rfl (by kernel_rfl) (by kernel_rfl) (by kernel_rfl) (fun _ _ _ h => h) (Or.inl ⟨by rfl, ?_⟩) hH0 ?_
              rotate_left
              · (intro w hSw; (try dsimp only at hSw); obtain ⟨hs1, hs2, hs3, hs4⟩ := hSw; go_simp; try with_reducible rfl)
              (try simp only [Act.put, List.getElem_toArray, List.getElem_cons_zero, List.getElem_cons_succ, List.setIfInBounds_toArray, List.set_cons_zero, List.set_cons_succ])
              refine wpAnyH_take (i := 21) (v := ?_) rfl (by kernel_rfl) (by kernel_rfl) (by kernel_rfl) (fun _ _ _ h => h) (Or.inl ⟨by rfl, ?_⟩) hH0 ?_
              rotate_left
              · (intro w hSw; (try dsimp only at hSw); obtain ⟨hs1, hs2, hs3, hs4⟩ := hSw; go_simp; try with_reducible rfl)
              (try simp only [Act.put, List.getElem_toArray, List.getElem_cons_zero, List.getElem_cons_succ, List.setIfInBounds_toArray, List.set_cons_zero, List.set_cons_succ])
              refine wpAnyH_take (i := 22) (v := ?_) rfl (by kernel_rfl) (by kernel_rfl) (by kernel_rfl) (fun _ _ _ h => h) (Or.inl ⟨by rfl, ?_⟩) hH0 ?_
              rotate_left
              · (intro w hSw; (try dsimp only at hSw); obtain ⟨hs1, hs2, hs3, hs4⟩ := hSw; go_simp; try with_reducible rfl)
              (try simp only [Act.put, List.getElem_toArray, List.getElem_cons_zero, List.getElem_cons_succ, List.setIfInBounds_toArray, List.set_cons_zero, List.set_cons_succ])
              refine wpAnyH_take (i := 23) (v := ?_) rfl (by kernel_rfl) (by kernel_rfl) (by kernel_rfl) (fun _ _ _ h => h) (Or.inl ⟨by rfl, ?_⟩) hH0 ?_
              rotate_left
              · (intro w hSw; (try dsimp only at hSw); obtain ⟨hs1, hs2, hs3, hs4⟩ := hSw; go_simp; try with_reducible rfl)
              (try simp only [Act.put, List.getElem_toArray, List.getElem_cons_zero, List.getElem_cons_succ, List.setIfInBounds_toArray, List.set_cons_zero, List.set_cons_succ])
              refine wpAnyH_take (i := 24) (v := ?_) rfl (by kernel_rfl) (by kernel_rfl) (by kernel_rfl) (fun _ _ _ h => h) (Or.inl ⟨by rfl, ?_⟩) hH0 ?_
              rotate_left
              · (intro w hSw; (try dsimp only at hSw); obtain ⟨hs1, hs2, hs3, hs4⟩ := hSw; go_simp; try with_reducible rfl)
              (try simp only [Act.put, List.getElem_toArray, List.getElem_cons_zero, List.getElem_cons_succ, List.setIfInBounds_toArray, List.set_cons_zero, List.set_cons_succ])
              refine wpAnyH_ready (rs := [17]) (by kernel_rfl) (by simp) ?_
              refine AllReadyH.cons rfl (fun K hK => ?_) AllReadyH.nil
              go_simp
              refine hK _ _ hS1 (fun hH1 => ?_)
              clear hK K
              (try simp only [Act.put, List.getElem_toArray, List.getElem_cons_zero, List.getElem_cons_succ, List.setIfInBounds_toArray, List.set_cons_zero, List.set_cons_succ])
              refine wpAnyH_take (i := 25) (v := ?_) rfl (by kernel_rfl) (by kernel_rfl) (by kernel_rfl) (fun _ _ _ h => h) (Or.inl ⟨by rfl, ?_⟩) hH1 ?_
              rotate_left
              · (intro w hSw; (try dsimp only at hSw); obtain ⟨hs1, hs2, hs3, hs4⟩ := hSw; go_simp; try with_reducible rfl)
              (try simp only [Act.put, List.getElem_toArray, List.getElem_cons_zero, List.getElem_cons_succ, List.setIfInBounds_toArray, List.set_cons_zero, List.set_cons_succ])
              refine wpAnyH_take (i := 26) (v := ?_) rfl (by kernel_rfl) (by kernel_rfl) (by kernel_rfl) (fun _ _ _ h => h) (Or.inl ⟨by rfl, ?_⟩) hH1 ?_
              rotate_left
              · (intro w hSw; (try dsimp only at hSw); obtain ⟨hs1, hs2, hs3, hs4⟩ := hSw; go_simp; try with_reducible rfl)
              (try simp only [Act.put, List.getElem_toArray, List.getElem_cons_zero, List.getElem_cons_succ, List.setIfInBounds_toArray, List.set_cons_zero, List.set_cons_succ])
              refine wpAnyH_ready (rs := [27]) (by kernel_rfl) (by simp) ?_
              refine AllReadyH.cons rfl (fun K hK => ?_) AllReadyH.nil
              go_simp
              refine hK _ _ ⟨(World.cell?_setCell_far _ _ _ _ elq).trans hS1.1, (World.cell?_setCell_far _ _ _ _ elq).trans hS1.2.1, (World.cell?_setCell_far _ _ _ _ elg).trans hS1.2.2.1, (World.cell?_setCell_far _ _ _ _ els).trans hS1.2.2.2⟩ (fun hH2 => ?_)
              clear hK K
              (try simp only [Act.put, List.getElem_toArray, List.getElem_cons_zero, List.getElem_cons_succ, List.setIfInBounds_toArray, List.set_cons_zero, List.set_cons_succ])
              refine wpAnyH_done (by kernel_rfl) ?_ _
              go_wp2
              go_roundg ((gm G v).length - (i + 1))
              case measure =>
                obtain ⟨hij2, hyy⟩ := HYY.out
                exact Nat.sub_lt_sub_left hij2 (Nat.lt_succ_self i)
              case rel =>
                obtain ⟨hij2, hyy⟩ := HYY.out
                obtain ⟨⟨_, _, hfl⟩, hml⟩ := lower_mem HB5.out.2.1 v (s2.seen y) hvn _ rfl
                rw [min_cast]
                have hti := from_low HW2.out.ti hij2 (by rw [hyy]; exact HS0.out) (by rw [hyy]; exact HLY.out)
                rw [hyy] at hti
                have how : OnW B w q n G s x (s2.lower v (s2.seen y)) ((v, i + 1) :: R) p2 (some ⟨g, 0, none⟩) pc _ := ⟨HB5.out.1.fr hfl, hml, hti, HW2.out.cnt, HW2.out.old, HW2.out.fst, HB5.out.2.2.trans' hfl fun k hk _ => hk.1⟩
                exact ⟨s2.lower v (s2.seen y), p2, i + 1, rfl, how.over ((Fr.refl _ _).drew), HU.out, rfl⟩
            · have HLY := Lib.hid hly
              have hcl : s2.loose.contains y = false := by rw [← Bool.not_eq_true, List.contains_iff_mem]; exact hly
              rw [hcl] at hmc
              clear hs0 hcl hly
              go_wp2
              go_quiet (fail)
              go_wp2
              go_quiet (fail)
              go_wp2
              go_roundg ((gm G v).length - (i + 1))
              case measure =>
                obtain ⟨hij2, hyy⟩ := HYY.out
                exact Nat.sub_lt_sub_left hij2 (Nat.lt_succ_self i)
              case rel =>
                obtain ⟨hij2, hyy⟩ := HYY.out
                exact ⟨s2, p2, i + 1, rfl, ⟨(HBP.out _).1, (HBP.out _).2.1, from_skip HW2.out.ti hij2 (by rw [hyy]; exact HS0.out) (by rw [hyy]; exact HLY.out), HW2.out.cnt, HW2.out.old, HW2.out.fst, (HBP.out _).2.2⟩, HU.out, rfl⟩
        · have hil : i = (gat G v).length := by
            have := (HW2.out.ti.next v i List.mem_cons_self).1
            rw [gm_len] at this
            omega
          have hijI : ¬ (i : Int) < ((gat G v).length : Int) := by omega
          have HPP := Lib.hid (HW2.out.way.pop)
          have c1 := HW2.out.mem.blk.cell 1
          have c2 := HW2.out.mem.blk.cell 2
          simp only [List.getElem?_toArray, List.getElem?_cons_zero, List.getElem?_cons_succ] at c1 c2
          obtain ⟨ad5, u5, he5, _, hu5, d5⟩ := HW2.out.mem.seen.rd.at_ (k := v) hvn
          injection he5 with he5
          subst he5
          rw [ns_at _ _ _ hvn] at hu5
          injection hu5 with hu5
          subst hu5
          rw [add_zero] at d5
          obtain ⟨ad6, u6, he6, _, hu6, d6⟩ := HW2.out.mem.low.rd.at_ (k := v) hvn
          injection he6 with he6
          subst he6
          rw [ns_at _ _ _ hvn] at hu6
          injection hu6 with hu6
          subst hu6
          rw [add_zero] at d6
          have HTV : Hid (TI n (gm G) s2 ((v, (gm G v).length) :: R)) := Lib.hid (by
            have h1 := HW2.out.ti
            rwa [show i = (gm G v).length by rw [gm_len]; exact hil] at h1)
          have HPW : Hid (∀ W w6, Fr No wr W → Fr (WkC B W) W w6 → PaM B w6 (some ⟨g, 0, none⟩) pc R ∧ Fr (fun k => B ≤ k) w w6) := Lib.hid (fun W w6 hW h6 => ⟨(HPP.out.fr (hW.mono fun _ _ h => nomatch h)).fr h6, (HW2.out.fr.trans' hW fun _ h => nomatch h).trans' h6 fun k hk _ => hk.1⟩)
          clear hil hij
          by_cases hls : s2.low v = s2.seen v
          · rw [← hls] at d5
            have HLS := Lib.hid hls
            obtain ⟨A1, B1, hlo, hvB, hall⟩ := from_tie HTV.out hls
            have HALL := Lib.hid hall
            have HTI : Hid (∀ W, Fr No wr W → Calls Tryz.prog 231 #[.pointer (some ⟨q, 0, none⟩), .int .i64 (v : Int)] W fun e w' => e = .returned (.tuple #[]) ∧ ∃ K : List Nat, K.Pairwise (· < ·) ∧ (∀ x, x ∈ K ↔ x ∈ v :: B1) ∧ WkN B W q n G (s2.tie A1 K) w') := Lib.hid (fun W hW =>
              tie_any B W q p2 n G s2 A1 B1 v (HW2.out.mem.over hW) hlo hvB (TI.nodup HW2.out.ti) (fun x hx => HW2.out.ti.rng x (HW2.out.ti.lseen x (by rw [hlo]; exact List.mem_append_right _ hx))) hn (Nat.le_trans (TI.loose_le HW2.out.ti) hn) (Nat.le_trans (TI.found_le HW2.out.ti) hn))
            clear hls hlo hvB hall
            go_wp2
            go_quiet (fail)
            go_wp2
            go_quiet (fail)
            rcases R with _ | ⟨⟨u, j'⟩, R'⟩
            · go_wp2_with (go_at_call 231; (with_reducible refine (HTI.out _ ((Fr.refl No wr).drewN _)).mono ?_); rintro _ w6 ⟨rfl, K, hK1, hK2, p6, hs6, hf6⟩; have HPA := Lib.hid (HPW.out _ _ ((Fr.refl No wr).drewN _) hf6); have HS6 := Lib.hid hs6; have HK1 := Lib.hid hK1; have HK2 := Lib.hid hK2; clear hs6 hf6 hK1 hK2)
              go_roundg (2 * uns (s2.tie A1 K) n + 0)
              case measure =>
                have h1 : uns (s2.tie A1 K) n = uns s2 n := rfl
                have h2 := HU.out
                show 2 * uns (s2.tie A1 K) n + 0 < 2 * uns s1 n + 1
                omega
              case rel =>
                exact ⟨s2.tie A1 K, [], p6, _, pc, rfl, ⟨HPA.out.1, HS6.out, (HALL.out K HK1.out HK2.out).1, HW2.out.cnt, HW2.out.old, HW2.out.fst, HPA.out.2⟩, rfl⟩
            · obtain ⟨hun, hvu⟩ := on_above HTV.out
              have HUN := Lib.hid hun
              have hRw2 : wrap64 (R'.length : Int) = (R'.length : Int) := by
                have h1 : R'.length + 1 + 1 ≤ n := TI.path_le HTV.out
                unfold wrap64; omega
              go_wp2_with (go_at_call 231; (with_reducible refine (HTI.out _ ((Fr.refl No wr).drewN _)).mono ?_); rintro _ w6 ⟨rfl, K, hK1, hK2, p6, hs6, hf6⟩; have hpa := HPW.out _ _ ((Fr.refl No wr).drewN _) hf6; have hlc6 := pam_top hpa.1; have HPA := Lib.hid hpa; have HS6 := Lib.hid hs6; have HK1 := Lib.hid hK1; have HK2 := Lib.hid hK2; clear hs6 hf6 hK1 hK2 hpa)
              obtain ⟨hS1, hlow, hlz, hpq, hpp⟩ := low_cells HS6.out hvn hun hvu
              obtain ⟨px, hpx⟩ : ∃ px, px = p6.pl := ⟨_, rfl⟩
              have hlv : (s2.tie A1 K).low v = s2.low v := rfl
              rw [hlv] at hS1
              obtain ⟨lv, hlvv⟩ : ∃ lv, lv = s2.low v := ⟨_, rfl⟩
              have HLV := Lib.hid hlvv
              have HPX := Lib.hid hpx
              rw [← hpx] at hS1 hlow hlz hpq hpp
              rw [← hlvv] at hS1
              clear hlv hlvv hpx
              refine wp_region_held_drew (S := fun W => W.cell? ⟨q, 2, none⟩ = some (.slice (some ⟨px, 0, none⟩) n n) ∧ W.cell? ⟨px, v, none⟩ = some (.int .i64 (lv : Int))) (by kernel_rfl) hS1 (fun hH0 => ?_)
              refine wpAnyH_take (i := 0) (v := ?_) rfl (by kernel_rfl) (by kernel_rfl) (by kernel_rfl) (fun _ _ _ h => h) (Or.inl ⟨by rfl, ?_⟩) hH0 ?_
              rotate_left
              · (intro w hSw; (try dsimp only at hSw); obtain ⟨hs1, hs2⟩ := hSw; go_simp; try with_reducible rfl)
              (try simp only [Act.put, List.getElem_toArray, List.getElem_cons_zero, List.getElem_cons_succ, List.setIfInBounds_toArray, List.set_cons_zero, List.set_cons_succ])
              refine wpAnyH_take (i := 1) (v := ?_) rfl (by kernel_rfl) (by kernel_rfl) (by kernel_rfl) (fun _ _ _ h => h) (Or.inl ⟨by rfl, ?_⟩) hH0 ?_
              rotate_left
              · (intro w hSw; (try dsimp only at hSw); obtain ⟨hs1, hs2⟩ := hSw; go_simp; try with_reducible rfl)
              (try simp only [Act.put, List.getElem_toArray, List.getElem_cons_zero, List.getElem_cons_succ, List.setIfInBounds_toArray, List.set_cons_zero, List.set_cons_succ])
              refine wpAnyH_take (i := 2) (v := ?_) rfl (by kernel_rfl) (by kernel_rfl) (by kernel_rfl) (fun _ _ _ h => h) (Or.inl ⟨by rfl, ?_⟩) hH0 ?_
              rotate_left
              · (intro w hSw; (try dsimp only at hSw); obtain ⟨hs1, hs2⟩ := hSw; go_simp; try with_reducible rfl)
              (try simp only [Act.put, List.getElem_toArray, List.getElem_cons_zero, List.getElem_cons_succ, List.setIfInBounds_toArray, List.set_cons_zero, List.set_cons_succ])
              refine wpAnyH_take (i := 3) (v := ?_) rfl (by kernel_rfl) (by kernel_rfl) (by kernel_rfl) (fun _ _ _ h => h) (Or.inl ⟨by rfl, ?_⟩) hH0 ?_
              rotate_left
              · (intro w hSw; (try dsimp only at hSw); obtain ⟨hs1, hs2⟩ := hSw; go_simp; try with_reducible rfl)
              (try simp only [Act.put, List.getElem_toArray, List.getElem_cons_zero, List.getElem_cons_succ, List.setIfInBounds_toArray, List.set_cons_zero, List.set_cons_succ])
              refine wpAnyH_take (i := 4) (v := ?_) rfl (by kernel_rfl) (by kernel_rfl) (by kernel_rfl) (fun _ _ _ h => h) (Or.inl ⟨by rfl, ?_⟩) hH0 ?_
              rotate_left
              · (intro w hSw; (try dsimp only at hSw); obtain ⟨hs1, hs2⟩ := hSw; go_simp; try with_reducible rfl)
              (try simp only [Act.put, List.getElem_toArray, List.getElem_cons_zero, List.getElem_cons_succ, List.setIfInBounds_toArray, List.set_cons_zero, List.set_cons_succ])
              refine wpAnyH_take (i := 5) (v := ?_) rfl (by kernel_rfl) (by kernel_rfl) (by kernel_rfl) (fun _ _ _ h => h) (Or.inl ⟨by rfl, ?_⟩) hH0 ?_
              rotate_left
              · (intro w hSw; (try dsimp only at hSw); obtain ⟨hs1, hs2⟩ := hSw; go_simp; try with_reducible rfl)
              (try simp only [Act.put, List.getElem_toArray, List.getElem_cons_zero, List.getElem_cons_succ, List.setIfInBounds_toArray, List.set_cons_zero, List.set_cons_succ])
              refine wpAnyH_take (i := 6) (v := ?_) rfl (by kernel_rfl) (by kernel_rfl) (by kernel_rfl) (fun _ _ _ h => h) (Or.inl ⟨by rfl, ?_⟩) hH0 ?_
              rotate_left
              · (intro w hSw; (try dsimp only at hSw); obtain ⟨hs1, hs2⟩ := hSw; go_simp; try with_reducible rfl)
              (try simp only [Act.put, List.getElem_toArray, List.getElem_cons_zero, List.getElem_cons_succ, List.setIfInBounds_toArray, List.set_cons_zero, List.set_cons_succ])
              refine wpAnyH_take (i := 7) (v := ?_) rfl (by kernel_rfl) (by kernel_rfl) (by kernel_rfl) (fun _ _ _ h => h) (Or.inl ⟨by rfl, ?_⟩) hH0 ?_
              rotate_left
              · (intro w hSw; (try dsimp only at hSw); obtain ⟨hs1, hs2⟩ := hSw; go_simp; try with_reducible rfl)
              (try simp only [Act.put, List.getElem_toArray, List.getElem_cons_zero, List.getElem_cons_succ, List.setIfInBounds_toArray, List.set_cons_zero, List.set_cons_succ])
              refine wpAnyH_take (i := 8) (v := ?_) rfl (by kernel_rfl) (by kernel_rfl) (by kernel_rfl) (fun _ _ _ h => h) (Or.inl ⟨by rfl, ?_⟩) hH0 ?_
              rotate_left
              · (intro w hSw; (try dsimp only at hSw); obtain ⟨hs1, hs2⟩ := hSw; go_simp; try with_reducible rfl)
              (try simp only [Act.put, List.getElem_toArray, List.getElem_cons_zero, List.getElem_cons_succ, List.setIfInBounds_toArray, List.set_cons_zero, List.set_cons_succ])
              refine wpAnyH_take (i := 9) (v := ?_) rfl (by kernel_rfl) (by kernel_rfl) (by kernel_rfl) (fun _ _ _ h => h) (Or.inl ⟨by rfl, ?_⟩) hH0 ?_
              rotate_left
              · (intro w hSw; (try dsimp only at hSw); obtain ⟨hs1, hs2⟩ := hSw; go_simp; try with_reducible rfl)
              (try simp only [Act.put, List.getElem_toArray, List.getElem_cons_zero, List.getElem_cons_succ, List.setIfInBounds_toArray, List.set_cons_zero, List.set_cons_succ])
              refine wpAnyH_take (i := 10) (v := ?_) rfl (by kernel_rfl) (by kernel_rfl) (by kernel_rfl) (fun _ _ _ h => h) (Or.inl ⟨by rfl, ?_⟩) hH0 ?_
              rotate_left
              · (intro w hSw; (try dsimp only at hSw); obtain ⟨hs1, hs2⟩ := hSw; go_simp; try with_reducible rfl)
              (try simp only [Act.put, List.getElem_toArray, List.getElem_cons_zero, List.getElem_cons_succ, List.setIfInBounds_toArray, List.set_cons_zero, List.set_cons_succ])
              refine wpAnyH_take (i := 12) (v := ?_) rfl (by kernel_rfl) (by kernel_rfl) (by kernel_rfl) (fun _ _ _ h => h) (Or.inl ⟨by rfl, ?_⟩) hH0 ?_
              rotate_left
              · (intro w hSw; (try dsimp only at hSw); obtain ⟨hs1, hs2⟩ := hSw; go_simp; try with_reducible rfl)
              (try simp only [Act.put, List.getElem_toArray, List.getElem_cons_zero, List.getElem_cons_succ, List.setIfInBounds_toArray, List.set_cons_zero, List.set_cons_succ])
              refine wpAnyH_take (i := 13) (v := ?_) rfl (by kernel_rfl) (by kernel_rfl) (by kernel_rfl) (fun _ _ _ h => h) (Or.inl ⟨by rfl, ?_⟩) hH0 ?_
              rotate_left
              · (intro w hSw; (try dsimp only at hSw); obtain ⟨hs1, hs2⟩ := hSw; go_simp; try with_reducible rfl)
              (try simp only [Act.put, List.getElem_toArray, List.getElem_cons_zero, List.getElem_cons_succ, List.setIfInBounds_toArray, List.set_cons_zero, List.set_cons_succ])
              refine wpAnyH_take (i := 14) (v := ?_) rfl (by kernel_rfl) (by kernel_rfl) (by kernel_rfl) (fun _ _ _ h => h) (Or.inl ⟨by rfl, ?_⟩) hH0 ?_
              rotate_left
              · (intro w hSw; (try dsimp only at hSw); obtain ⟨hs1, hs2⟩ := hSw; go_simp; try with_reducible rfl)
              (try simp only [Act.put, List.getElem_toArray, List.getElem_cons_zero, List.getElem_cons_succ, List.setIfInBounds_toArray, List.set_cons_zero, List.set_cons_succ])
              refine wpAnyH_take (i := 15) (v := ?_) rfl (by kernel_rfl) (by kernel_rfl) (by kernel_rfl) (fun _ _ _ h => h) (Or.inl ⟨by rfl, ?_⟩) hH0 ?_
              rotate_left
              · (intro w hSw; (try dsimp only at hSw); obtain ⟨hs1, hs2⟩ := hSw; go_simp; try with_reducible rfl)
              (try simp only [Act.put, List.getElem_toArray, List.getElem_cons_zero, List.getElem_cons_succ, List.setIfInBounds_toArray, List.set_cons_zero, List.set_cons_succ])
              refine wpAnyH_take (i := 16) (v := ?_) rfl (by kernel_rfl) (by kernel_rfl) (by kernel_rfl) (fun _ _ _ h => h) (Or.inl ⟨by rfl, ?_⟩) hH0 ?_
              rotate_left
              · (intro w hSw; (try dsimp only at hSw); obtain ⟨hs1, hs2⟩ := hSw; go_simp; try with_reducible rfl)
              (try simp only [Act.put, List.getElem_toArray, List.getElem_cons_zero, List.getElem_cons_succ, List.setIfInBounds_toArray, List.set_cons_zero, List.set_cons_succ])
              refine wpAnyH_take (i := 17) (v := ?_) rfl (by kernel_rfl) (by kernel_rfl) (by kernel_rfl) (fun _ _ _ h => h) (Or.inl ⟨by rfl, ?_⟩) hH0 ?_
              rotate_left
              · (intro w hSw; (try dsimp only at hSw); obtain ⟨hs1, hs2⟩ := hSw; go_simp; try with_reducible rfl)
              (try simp only [Act.put, List.getElem_toArray, List.getElem_cons_zero, List.getElem_cons_succ, List.setIfInBounds_toArray, List.set_cons_zero, List.set_cons_succ])
              refine wpAnyH_take (i := 18) (v := ?_) rfl (by kernel_rfl) (by kernel_rfl) (by kernel_rfl) (fun _ _ _ h => h) (Or.inl ⟨by rfl, ?_⟩) hH0 ?_
              rotate_left
              · (intro w hSw; (try dsimp only at hSw); obtain ⟨hs1, hs2⟩ := hSw; go_simp; try with_reducible rfl)
              (try simp only [Act.put, List.getElem_toArray, List.getElem_cons_zero, List.getElem_cons_succ, List.setIfInBounds_toArray, List.set_cons_zero, List.set_cons_succ])
              refine wpAnyH_ready (rs := [11]) (by kernel_rfl) (by simp) ?_
              refine AllReadyH.cons rfl (fun K hK => ?_) AllReadyH.nil
              go_simp
              refine hK _ _ hS1 (fun hH1 => ?_)
              clear hK K
              (try simp only [Act.put, List.getElem_toArray, List.getElem_cons_zero, List.getElem_cons_succ, List.setIfInBounds_toArray, List.set_cons_zero, List.set_cons_succ])
              refine wpAnyH_take (i := 19) (v := ?_) rfl (by kernel_rfl) (by kernel_rfl) (by kernel_rfl) (fun _ _ _ h => h) (Or.inl ⟨by rfl, ?_⟩) hH1 ?_
              rotate_left
              · (intro w hSw; (try dsimp only at hSw); obtain ⟨hs1, hs2⟩ := hSw; go_simp; try with_reducible rfl)
              (try simp only [Act.put, List.getElem_toArray, List.getElem_cons_zero, List.getElem_cons_succ, List.setIfInBounds_toArray, List.set_cons_zero, List.set_cons_succ])
              refine wpAnyH_take (i := 20) (v := ?_) rfl (by kernel_rfl) (by kernel_rfl) (by kernel_rfl) (fun _ _ _ h => h) (Or.inl ⟨by rfl, ?_⟩) hH1 ?_
              rotate_left
              · (intro w hSw; (try dsimp only at hSw); obtain ⟨hs1, hs2⟩ := hSw; go_simp; try with_reducible rfl)
              (try simp only [Act.put, List.getElem_toArray, List.getElem_cons_zero, List.getElem_cons_succ, List.setIfInBounds_toArray, List.set_cons_zero, List.set_cons_succ])
              refine wpAnyH_ready (rs := [21]) (by kernel_rfl) (by simp) ?_
              refine AllReadyH.cons rfl (fun K hK => ?_) AllReadyH.nil
              go_simp
              refine hK _ _ ⟨(World.cell?_setCell_far _ _ _ _ hpq).trans hS1.1, (hpp _).trans hS1.2⟩ (fun hH2 => ?_)
              clear hK K
              (try simp only [Act.put, List.getElem_toArray, List.getElem_cons_zero, List.getElem_cons_succ, List.setIfInBounds_toArray, List.set_cons_zero, List.set_cons_succ])
              refine wpAnyH_done (by kernel_rfl) ?_ _
              go_wp2
              go_roundg (2 * uns (s2.tie A1 K) n + (R'.length + 1))
              case measure =>
                have h1 : uns (s2.tie A1 K) n = uns s2 n := rfl
                have h2 := HU.out
                simp only [List.length_cons]
                omega
              case rel =>
                rw [HPX.out, HLV.out, min_cast]
                obtain ⟨⟨_, _, hfl⟩, hml⟩ := lower_mem HS6.out u (s2.low v) HUN.out _ rfl
                have hti := (HALL.out K HK1.out HK2.out).1
                have hll := (HALL.out K HK1.out HK2.out).2 u j' R' rfl
                have hml2 := hml
                rw [hll] at hml2
                have how : OnW B w q n G s x (s2.tie A1 K) ((u, j') :: R') p6 (some ⟨g, 0, none⟩) pc _ := ⟨HPA.out.1.fr hfl, hml2, hti, HW2.out.cnt, HW2.out.old, HW2.out.fst, HPA.out.2.trans' hfl fun k hk _ => hk.1⟩
                exact ⟨s2.tie A1 K, (u, j') :: R', p6, _, pc, rfl, how.over ((Fr.refl _ _).drew), rfl⟩
          · have HLS := Lib.hid hls
            have hlsI : ((s2.low v : Int) == (s2.seen v : Int)) = false := by rw [beq_eq_false_iff_ne]; omega
            clear hls
            go_wp2
            go_quiet (fail)
            generalize nq = nqa
            go_wp2
            go_quiet (fail)
            have hls := HLS.out
            obtain ⟨u, j', R', rfl, hpop⟩ := from_pop HTV.out hls
            have HPOP := Lib.hid hpop
            obtain ⟨hun, hvu⟩ := on_above HTV.out
            have HUN := Lib.hid hun
            have hRw2 : wrap64 (R'.length : Int) = (R'.length : Int) := by
              have h1 : R'.length + 1 + 1 ≤ n := TI.path_le HTV.out
              unfold wrap64; omega
            have hRw3 : wrap64 ((R'.length : Int) + 1) = (R'.length : Int) + 1 := by
              have h1 : R'.length + 1 + 1 ≤ n := TI.path_le HTV.out
              unfold wrap64; omega
            have HLC : Hid (∀ k, (wr.drewN k).cell? ⟨g, R'.length * 2, none⟩ = some (.int .i64 (u : Int))) := Lib.hid fun k => pam_top (HPW.out (wr.drewN k) _ ((Fr.refl No wr).drewN k) (Fr.refl _ _)).1
            have HS6 : Hid (∀ k, WkS B (wr.drewN k) q p2 n G s2) := Lib.hid fun k => HW2.out.mem.over ((Fr.refl No wr).drewN k)
            have HPA : Hid (∀ k, PaM B (wr.drewN k) (some ⟨g, 0, none⟩) pc ((u, j') :: R') ∧ Fr (fun k => B ≤ k) w (wr.drewN k)) := Lib.hid fun k => HPW.out (wr.drewN k) _ ((Fr.refl No wr).drewN k) (Fr.refl _ _)
            have hlc0 : wr.cell? ⟨g, R'.length * 2, none⟩ = some (.int .i64 (u : Int)) := HLC.out 0
            simp only [List.length_cons]
            clear hls hpop
            go_wp2
            obtain ⟨kq, hkq⟩ : ∃ kq, kq = nqa + nq := ⟨_, rfl⟩
            rw [← hkq]
            have HS7 := Lib.hid (HS6.out kq)
            have HPA7 := Lib.hid (HPA.out kq)
            generalize wr.drewN kq = w6 at *
            obtain ⟨hS1, hlow, hlz, hpq, hpp⟩ := low_cells HS7.out hvn HUN.out hvu
            obtain ⟨px, hpx⟩ : ∃ px, px = p2.pl := ⟨_, rfl⟩
            obtain ⟨lv, hlvv⟩ : ∃ lv, lv = s2.low v := ⟨_, rfl⟩
            have HLV := Lib.hid hlvv
            have HPX := Lib.hid hpx
            rw [← hpx] at hS1 hlow hlz hpq hpp
            rw [← hlvv] at hS1
            clear hlvv hpx
            refine wp_region_held_drew (S := fun W => W.cell? ⟨q, 2, none⟩ = some (.slice (some ⟨px, 0, none⟩) n n) ∧ W.cell? ⟨px, v, none⟩ = some (.int .i64 (lv : Int))) (by kernel_rfl) hS1 (fun hH0 => ?_)
            refine wpAnyH_take (i := 0) (v := ?_) rfl (by kernel_rfl) (by kernel_rfl) (by kernel_rfl) (fun _ _ _ h => h) (Or.inl ⟨by rfl, ?_⟩) hH0 ?_
            rotate_left
            · (intro w hSw; (try dsimp only at hSw); obtain ⟨hs1, hs2⟩ := hSw; go_simp; try with_reducible rfl)
            (try simp only [Act.put, List.getElem_toArray, List.getElem_cons_zero, List.getElem_cons_succ, List.setIfInBounds_toArray, List.set_cons_zero, List.set_cons_succ])
            refine wpAnyH_take (i := 1) (v := ?_) rfl (by kernel_rfl) (by kernel_rfl) (by kernel_rfl) (fun _ _ _ h => h) (Or.inl ⟨by rfl, ?_⟩) hH0 ?_
            rotate_left
            · (intro w hSw; (try dsimp only at hSw); obtain ⟨hs1, hs2⟩ := hSw; go_simp; try with_reducible rfl)
            (try simp only [Act.put, List.getElem_toArray, List.getElem_cons_zero, List.getElem_cons_succ, List.setIfInBounds_toArray, List.set_cons_zero, List.set_cons_succ])
            refine wpAnyH_take (i := 2) (v := ?_) rfl (by kernel_rfl) (by kernel_rfl) (by kernel_rfl) (fun _ _ _ h => h) (Or.inl ⟨by rfl, ?_⟩) hH0 ?_
            rotate_left
            · (intro w hSw; (try dsimp only at hSw); obtain ⟨hs1, hs2⟩ := hSw; go_simp; try with_reducible rfl)
            (try simp only [Act.put, List.getElem_toArray, List.getElem_cons_zero, List.getElem_cons_succ, List.setIfInBounds_toArray, List.set_cons_zero, List.set_cons_succ])
            refine wpAnyH_take (i := 3) (v := ?_) rfl (by kernel_rfl) (by kernel_rfl) (by kernel_rfl) (fun _ _ _ h => h) (Or.inl ⟨by rfl, ?_⟩) hH0 ?_
            rotate_left
            · (intro w hSw; (try dsimp only at hSw); obtain ⟨hs1, hs2⟩ := hSw; go_simp; try with_reducible rfl)
            (try simp only [Act.put, List.getElem_toArray, List.getElem_cons_zero, List.getElem_cons_succ, List.setIfInBounds_toArray, List.set_cons_zero, List.set_cons_succ])
            refine wpAnyH_take (i := 4) (v := ?_) rfl (by kernel_rfl) (by kernel_rfl) (by kernel_rfl) (fun _ _ _ h => h) (Or.inl ⟨by rfl, ?_⟩) hH0 ?_
            rotate_left
            · (intro w hSw; (try dsimp only at hSw); obtain ⟨hs1, hs2⟩ := hSw; go_simp; try with_reducible rfl)
            (try simp only [Act.put, List.getElem_toArray, List.getElem_cons_zero, List.getElem_cons_succ, List.setIfInBounds_toArray, List.set_cons_zero, List.set_cons_succ])
            refine wpAnyH_take (i := 5) (v := ?_) rfl (by kernel_rfl) (by kernel_rfl) (by kernel_rfl) (fun _ _ _ h => h) (Or.inl ⟨by rfl, ?_⟩) hH0 ?_
            rotate_left
            · (intro w hSw; (try dsimp only at hSw); obtain ⟨hs1, hs2⟩ := hSw; go_simp; try with_reducible rfl)
            (try simp only [Act.put, List.getElem_toArray, List.getElem_cons_zero, List.getElem_cons_succ, List.setIfInBounds_toArray, List.set_cons_zero, List.set_cons_succ])
            refine wpAnyH_take (i := 6) (v := ?_) rfl (by kernel_rfl) (by kernel_rfl) (by kernel_rfl) (fun _ _ _ h => h) (Or.inl ⟨by rfl, ?_⟩) hH0 ?_
            rotate_left
            · (intro w hSw; (try dsimp only at hSw); obtain ⟨hs1, hs2⟩ := hSw; go_simp; try with_reducible rfl)
            (try simp only [Act.put, List.getElem_toArray, List.getElem_cons_zero, List.getElem_cons_succ, List.setIfInBounds_toArray, List.set_cons_zero, List.set_cons_succ])
            refine wpAnyH_take (i := 7) (v := ?_) rfl (by kernel_rfl) (by kernel_rfl) (by kernel_rfl) (fun _ _ _ h => h) (Or.inl ⟨by rfl, ?_⟩) hH0 ?_
            rotate_left
            · (intro w hSw; (try dsimp only at hSw); obtain ⟨hs1, hs2⟩ := hSw; go_simp; try with_reducible rfl)
            (try simp only [Act.put, List.getElem_toArray, List.getElem_cons_zero, List.getElem_cons_succ, List.setIfInBounds_toArray, List.set_cons_zero, List.set_cons_succ])
            refine wpAnyH_take (i := 8) (v := ?_) rfl (by kernel_rfl) (by kernel_rfl) (by kernel_rfl) (fun _ _ _ h => h) (Or.inl ⟨by rfl, ?_⟩) hH0 ?_
            rotate_left
            · (intro w hSw; (try dsimp only at hSw); obtain ⟨hs1, hs2⟩ := hSw; go_simp; try with_reducible rfl)
            (try simp only [Act.put, List.getElem_toArray, List.getElem_cons_zero, List.getElem_cons_succ, List.setIfInBounds_toArray, List.set_cons_zero, List.set_cons_succ])
            refine wpAnyH_take (i := 9) (v := ?_) rfl (by kernel_rfl) (by kernel_rfl) (by kernel_rfl) (fun _ _ _ h => h) (Or.inl ⟨by rfl, ?_⟩) hH0 ?_
            rotate_left
            · (intro w hSw; (try dsimp only at hSw); obtain ⟨hs1, hs2⟩ := hSw; go_simp; try with_reducible rfl)
            (try simp only [Act.put, List.getElem_toArray, List.getElem_cons_zero, List.getElem_cons_succ, List.setIfInBounds_toArray, List.set_cons_zero, List.set_cons_succ])
            refine wpAnyH_take (i := 10) (v := ?_) rfl (by kernel_rfl) (by kernel_rfl) (by kernel_rfl) (fun _ _ _ h => h) (Or.inl ⟨by rfl, ?_⟩) hH0 ?_
            rotate_left
            · (intro w hSw; (try dsimp only at hSw); obtain ⟨hs1, hs2⟩ := hSw; go_simp; try with_reducible rfl)
            (try simp only [Act.put, List.getElem_toArray, List.getElem_cons_zero, List.getElem_cons_succ, List.setIfInBounds_toArray, List.set_cons_zero, List.set_cons_succ])
            refine wpAnyH_take (i := 12) (v := ?_) rfl (by kernel_rfl) (by kernel_rfl) (by kernel_rfl) (fun _ _ _ h => h) (Or.inl ⟨by rfl, ?_⟩) hH0 ?_
            rotate_left
            · (intro w hSw; (try dsimp only at hSw); obtain ⟨hs1, hs2⟩ := hSw; go_simp; try with_reducible rfl)
            (try simp only [Act.put, List.getElem_toArray, List.getElem_cons_zero, List.getElem_cons_succ, List.setIfInBounds_toArray, List.set_cons_zero, List.set_cons_succ])
            refine wpAnyH_take (i := 13) (v := ?_) rfl (by kernel_rfl) (by kernel_rfl) (by kernel_rfl) (fun _ _ _ h => h) (Or.inl ⟨by rfl, ?_⟩) hH0 ?_
            rotate_left
            · (intro w hSw; (try dsimp only at hSw); obtain ⟨hs1, hs2⟩ := hSw; go_simp; try with_reducible rfl)
            (try simp only [Act.put, List.getElem_toArray, List.getElem_cons_zero, List.getElem_cons_succ, List.setIfInBounds_toArray, List.set_cons_zero, List.set_cons_succ])
            refine wpAnyH_take (i := 14) (v := ?_) rfl (by kernel_rfl) (by kernel_rfl) (by kernel_rfl) (fun _ _ _ h => h) (Or.inl ⟨by rfl, ?_⟩) hH0 ?_
            rotate_left
            · (intro w hSw; (try dsimp only at hSw); obtain ⟨hs1, hs2⟩ := hSw; go_simp; try with_reducible rfl)
            (try simp only [Act.put, List.getElem_toArray, List.getElem_cons_zero, List.getElem_cons_succ, List.setIfInBounds_toArray, List.set_cons_zero, List.set_cons_succ])
            refine wpAnyH_take (i := 15) (v := ?_) rfl (by kernel_rfl) (by kernel_rfl) (by kernel_rfl) (fun _ _ _ h => h) (Or.inl ⟨by rfl, ?_⟩) hH0 ?_
            rotate_left
            · (intro w hSw; (try dsimp only at hSw); obtain ⟨hs1, hs2⟩ := hSw; go_simp; try with_reducible rfl)
            (try simp only [Act.put, List.getElem_toArray, List.getElem_cons_zero, List.getElem_cons_succ, List.setIfInBounds_toArray, List.set_cons_zero, List.set_cons_succ])
            refine wpAnyH_take (i := 16) (v := ?_) rfl (by kernel_rfl) (by kernel_rfl) (by kernel_rfl) (fun _ _ _ h => h) (Or.inl ⟨by rfl, ?_⟩) hH0 ?_
            rotate_left
            · (intro w hSw; (try dsimp only at hSw); obtain ⟨hs1, hs2⟩ := hSw; go_simp; try with_reducible rfl)
            (try simp only [Act.put, List.getElem_toArray, List.getElem_cons_zero, List.getElem_cons_succ, List.setIfInBounds_toArray, List.set_cons_zero, List.set_cons_succ])
            refine wpAnyH_take (i := 17) (v := ?_) rfl (by kernel_rfl) (by kernel_rfl) (by kernel_rfl) (fun _ _ _ h => h) (Or.inl ⟨by rfl, ?_⟩) hH0 ?_
            rotate_left
            · (intro w hSw; (try dsimp only at hSw); obtain ⟨hs1, hs2⟩ := hSw; go_simp; try with_reducible rfl)
            (try simp only [Act.put, List.getElem_toArray, List.getElem_cons_zero, List.getElem_cons_succ, List.setIfInBounds_toArray, List.set_cons_zero, List.set_cons_succ])
            refine wpAnyH_take (i := 18) (v := ?_) rfl (by kernel_rfl) (by kernel_rfl) (by kernel_rfl) (fun _ _ _ h => h) (Or.inl ⟨by rfl, ?_⟩) hH0 ?_
            rotate_left
            · (intro w hSw; (try dsimp only at hSw); obtain ⟨hs1, hs2⟩ := hSw; go_simp; try with_reducible rfl)
            (try simp only [Act.put, List.getElem_toArray, List.getElem_cons_zero, List.getElem_cons_succ, List.setIfInBounds_toArray, List.set_cons_zero, List.set_cons_succ])
            refine wpAnyH_ready (rs := [11]) (by kernel_rfl) (by simp) ?_
            refine AllReadyH.cons rfl (fun K hK => ?_) AllReadyH.nil
            go_simp
            refine hK _ _ hS1 (fun hH1 => ?_)
            clear hK K
            (try simp only [Act.put, List.getElem_toArray, List.getElem_cons_zero, List.getElem_cons_succ, List.setIfInBounds_toArray, List.set_cons_zero, List.set_cons_succ])
            refine wpAnyH_take (i := 19) (v := ?_) rfl (by kernel_rfl) (by kernel_rfl) (by kernel_rfl) (fun _ _ _ h => h) (Or.inl ⟨by rfl, ?_⟩) hH1 ?_
            rotate_left
            · (intro w hSw; (try dsimp only at hSw); obtain ⟨hs1, hs2⟩ := hSw; go_simp; try with_reducible rfl)
            (try simp only [Act.put, List.getElem_toArray, List.getElem_cons_zero, List.getElem_cons_succ, List.setIfInBounds_toArray, List.set_cons_zero, List.set_cons_succ])
            refine wpAnyH_take (i := 20) (v := ?_) rfl (by kernel_rfl) (by kernel_rfl) (by kernel_rfl) (fun _ _ _ h => h) (Or.inl ⟨by rfl, ?_⟩) hH1 ?_
            rotate_left
            · (intro w hSw; (try dsimp only at hSw); obtain ⟨hs1, hs2⟩ := hSw; go_simp; try with_reducible rfl)
            (try simp only [Act.put, List.getElem_toArray, List.getElem_cons_zero, List.getElem_cons_succ, List.setIfInBounds_toArray, List.set_cons_zero, List.set_cons_succ])
            refine wpAnyH_ready (rs := [21]) (by kernel_rfl) (by simp) ?_
            refine AllReadyH.cons rfl (fun K hK => ?_) AllReadyH.nil
            go_simp
            refine hK _ _ ⟨(World.cell?_setCell_far _ _ _ _ hpq).trans hS1.1, (hpp _).trans hS1.2⟩ (fun hH2 => ?_)
            clear hK K
            (try simp only [Act.put, List.getElem_toArray, List.getElem_cons_zero, List.getElem_cons_succ, List.setIfInBounds_toArray, List.set_cons_zero, List.set_cons_succ])
            refine wpAnyH_done (by kernel_rfl) ?_ _
            go_wp2
            go_roundg (2 * uns (s2.lower u (s2.low v)) n + (R'.length + 1))
            case measure =>
              have h1 : uns (s2.lower u (s2.low v)) n = uns s2 n := rfl
              have h2 := HU.out
              simp only [List.length_cons]
              omega
            case rel =>
              rw [HPX.out, HLV.out, min_cast]
              obtain ⟨⟨_, _, hfl⟩, hml⟩ := lower_mem HS7.out u (s2.low v) HUN.out _ rfl
              have how : OnW B w q n G s x (s2.lower u (s2.low v)) ((u, j') :: R') p2 (some ⟨g, 0, none⟩) pc _ := ⟨HPA7.out.1.fr hfl, hml, HPOP.out, HW2.out.cnt, HW2.out.old, HW2.out.fst, HPA7.out.2.trans' hfl fun k hk _ => hk.1⟩
              exact ⟨s2.lower u (s2.low v), (u, j') :: R', p2, _, pc, rfl, how.over ((Fr.refl _ _).drew), rfl⟩
end Go.Proofs.YtcpgamidimfflaaGreat
