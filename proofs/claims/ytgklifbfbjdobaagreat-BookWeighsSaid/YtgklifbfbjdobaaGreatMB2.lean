/- What a book has: Accts, Holds, Closed, Copy, Same. The first orders of a list; orders, one behind the other. What the laws on books call first. -/
import Derived.Test.YtgklifbfbjdobaaGreatMB1
import Derived.Test.YtgklifbfbjdobaaGreatMH
import Derived.Deep.QuietTactic
import Derived.BigQuiet
import Derived.Test.YtgklifbfbjdobaaGreatMO
import Derived.Test.YtgklifbfbjdobaaGreatMBM
namespace Go.Proofs.YtgklifbfbjdobaaGreat
open Go.RowKit Go.My Go.Maps
set_option linter.unusedSimpArgs false
set_option linter.unusedVariables false
attribute [local go_sem ↓] Go.wp_at_zero Go.wp_at_succ

theorem neq_hd (a b : Hd) (W : World) (h : a ≠ b) : (binOp .neq 44 (.agg #[.int .i64 a.num, .string ⟨a.acct.toArray⟩, .int .i64 a.sum]) (.agg #[.int .i64 b.num, .string ⟨b.acct.toArray⟩, .int .i64 b.sum])).run Tryz.prog W = .ok (.bool true) W := by
  have key : a.num = b.num → a.acct = b.acct → ¬ a.sum = b.sum := fun h1 h2 h3 => h (by cases a; cases b; simp_all)
  simp [go_sem]
  exact key
def EqARel (S T : List Ac) (w : World) (i : Value) (wr : World) : Prop :=
  ∃ k j : Nat, k ≤ S.length ∧ i = .int .i64 k ∧ S.take k = T.take k ∧ wr = w.drewN j
def EqHRel (S T : List Hd) (w : World) (i : Value) (wr : World) : Prop :=
  ∃ k j : Nat, k ≤ S.length ∧ i = .int .i64 k ∧ S.take k = T.take k ∧ wr = w.drewN j
set_option maxRecDepth 100000 in
set_option maxHeartbeats 1000000 in
theorem equalA_any (F G : Nat → Prop) (A B : Option Addr) (c d : Nat) (S T : List Ac) (w : World) (hl : Rd w F 4 A S.length (acs S)) (hr : Rd w G 4 B T.length (acs T)) (hsz : S.length ≤ 1000000000) :
    Calls Tryz.prog 25 #[.slice A S.length c, .slice B T.length d] w fun e w' => e = .returned (.bool (decide (S = T))) ∧ ∃ n, w' = w.drewN n := by
  by_cases hlen : S.length = T.length
  · have hz : ((S.length : Int) != (T.length : Int)) = false := by rw [bne_eq_false_iff_eq]; omega
    have HL := Lib.hid hlen
    have HA := Lib.hid hl
    have HB := Lib.hid hr
    clear hlen hl hr
    go_enter Tryz.func25, Tryz.ntmps25
    go_wp2
    go_loopw [13] (fun a wr => EqARel S T w a wr) (fun a _ => S.length - (intOf a).toNat)
    case atStart => exact ⟨0, 0, Nat.zero_le _, rfl, rfl, rfl⟩
    case round =>
      obtain ⟨k, j, hk, rfl, heq, rfl⟩ := hrel
      have HE := Lib.hid heq
      clear heq
      by_cases hlt : k < S.length
      · have hlt2 : k < T.length := by have := HL.out; omega
        obtain ⟨ad, rfl, _, p0, p1, p2, p3⟩ := acs_at HA.out k hlt
        obtain ⟨bd, rfl, _, q0, q1, q2, q3⟩ := acs_at HB.out k hlt2
        have e1 : S.take (k + 1) = S.take k ++ [S[k]] := List.take_succ_eq_append_getElem hlt
        have e2 : T.take (k + 1) = T.take k ++ [T[k]] := List.take_succ_eq_append_getElem hlt2
        by_cases hxy : S[k] = T[k]
        · have E : Hid (S.take (k + 1) = T.take (k + 1)) := by show _ = _; rw [e1, e2, HE.out, hxy]
          rw [← hxy] at q0 q1 q2 q3
          clear e1 e2 hxy
          generalize S[k].name.toArray = n1 at *
          generalize S[k].hv = v1 at *
          generalize S[k].st = v2 at *
          generalize S[k].lim = v3 at *
          go_wp2
          go_quiet (fail)
          go_wp2
          go_roundw
          case rel => exact ⟨k + 1, _, by omega, by go_num, E.out, rfl⟩
          case measure => simp [intOf]; omega
        · have E : Hid (S ≠ T) := by
            intro h
            subst h
            exact hxy rfl
          have hne := fun W => neq_ac S[k] T[k] W hxy
          clear e1 e2 hxy
          generalize S[k].name.toArray = n1 at *
          generalize S[k].hv = v1 at *
          generalize S[k].st = v2 at *
          generalize S[k].lim = v3 at *
          generalize T[k].name.toArray = m1 at *
          generalize T[k].hv = u1 at *
          generalize T[k].st = u2 at *
          generalize T[k].lim = u3 at *
          go_wp2
          go_quiet (fail)
          go_wp2
          go_ret
          exact ⟨by rw [decide_eq_false E.out]; rfl, _, World.drewN_drewN _ _ _⟩
      · have : k = S.length := by omega
        subst this
        go_wp2
        go_ret
        have h1 := HE.out
        rw [List.take_length, HL.out, List.take_length] at h1
        exact ⟨by rw [decide_eq_true h1]; rfl, _, rfl⟩
  · have hz : ((S.length : Int) != (T.length : Int)) = true := by rw [bne_iff_ne]; omega
    have HL := Lib.hid hlen
    clear hlen hl hr
    go_enter Tryz.func25, Tryz.ntmps25
    go_wp2
    go_ret
    exact ⟨by rw [decide_eq_false (fun h => HL.out (by rw [h]))]; rfl, 0, rfl⟩

set_option maxRecDepth 100000 in
set_option maxHeartbeats 1000000 in
theorem equalH_any (F G : Nat → Prop) (A B : Option Addr) (c d : Nat) (S T : List Hd) (w : World) (hl : Rd w F 3 A S.length (hds S)) (hr : Rd w G 3 B T.length (hds T)) (hsz : S.length ≤ 1000000000) :
    Calls Tryz.prog 26 #[.slice A S.length c, .slice B T.length d] w fun e w' => e = .returned (.bool (decide (S = T))) ∧ ∃ n, w' = w.drewN n := by
  by_cases hlen : S.length = T.length
  · have hz : ((S.length : Int) != (T.length : Int)) = false := by rw [bne_eq_false_iff_eq]; omega
    have HL := Lib.hid hlen
    have HA := Lib.hid hl
    have HB := Lib.hid hr
    clear hlen hl hr
    go_enter Tryz.func26, Tryz.ntmps26
    go_wp2
    go_loopw [13] (fun a wr => EqHRel S T w a wr) (fun a _ => S.length - (intOf a).toNat)
    case atStart => exact ⟨0, 0, Nat.zero_le _, rfl, rfl, rfl⟩
    case round =>
      obtain ⟨k, j, hk, rfl, heq, rfl⟩ := hrel
      have HE := Lib.hid heq
      clear heq
      by_cases hlt : k < S.length
      · have hlt2 : k < T.length := by have := HL.out; omega
        obtain ⟨ad, rfl, _, p0, p1, p2⟩ := hd_at HA.out k hlt
        obtain ⟨bd, rfl, _, q0, q1, q2⟩ := hd_at HB.out k hlt2
        have e1 : S.take (k + 1) = S.take k ++ [S[k]] := List.take_succ_eq_append_getElem hlt
        have e2 : T.take (k + 1) = T.take k ++ [T[k]] := List.take_succ_eq_append_getElem hlt2
        by_cases hxy : S[k] = T[k]
        · have E : Hid (S.take (k + 1) = T.take (k + 1)) := by show _ = _; rw [e1, e2, HE.out, hxy]
          rw [← hxy] at q0 q1 q2
          clear e1 e2 hxy
          generalize S[k].acct.toArray = n1 at *
          generalize S[k].num = v1 at *
          generalize S[k].sum = v2 at *
          go_wp2
          go_quiet (fail)
          go_wp2
          go_roundw
          case rel => exact ⟨k + 1, _, by omega, by go_num, E.out, rfl⟩
          case measure => simp [intOf]; omega
        · have E : Hid (S ≠ T) := by
            intro h
            subst h
            exact hxy rfl
          have hne := fun W => neq_hd S[k] T[k] W hxy
          clear e1 e2 hxy
          generalize S[k].acct.toArray = n1 at *
          generalize S[k].num = v1 at *
          generalize S[k].sum = v2 at *
          generalize T[k].acct.toArray = m1 at *
          generalize T[k].num = u1 at *
          generalize T[k].sum = u2 at *
          go_wp2
          go_quiet (fail)
          go_wp2
          go_ret
          exact ⟨by rw [decide_eq_false E.out]; rfl, _, World.drewN_drewN _ _ _⟩
      · have : k = S.length := by omega
        subst this
        go_wp2
        go_ret
        have h1 := HE.out
        rw [List.take_length, HL.out, List.take_length] at h1
        exact ⟨by rw [decide_eq_true h1]; rfl, _, rfl⟩
  · have hz : ((S.length : Int) != (T.length : Int)) = true := by rw [bne_iff_ne]; omega
    have HL := Lib.hid hlen
    clear hlen hl hr
    go_enter Tryz.func26, Tryz.ntmps26
    go_wp2
    go_ret
    exact ⟨by rw [decide_eq_false (fun h => HL.out (by rw [h]))]; rfl, 0, rfl⟩

set_option maxRecDepth 100000 in
theorem baccts_any (q : Pl) (b : Bk) (w : World) (h : BkS w q b) : Calls Tryz.prog 14 #[.pointer (some ⟨q.p, 0, none⟩)] w (RetOwn w 42 4 none b.S.length (acs b.S)) := by
  have HA := Lib.hid (all_any q.c q.m b.S w h.ch h.inv.st.kp.inv.nm h.inv.st.kp.inv.len)
  have x : w.cell? ⟨q.p, 0, none⟩ = some (.pointer (some ⟨q.c, 0, none⟩)) := h.blk.cell 0
  clear h
  go_enter Tryz.func14, Tryz.ntmps14
  go_wp2_with fail
  (with_reducible refine HA.out.mono ?_)
  rintro e w1 ⟨v, rfl, hr⟩
  have HR := Lib.hid hr
  clear hr x
  go_wp2
  go_ret
  exact ⟨v, rfl, HR.out⟩
theorem baccts_nil (w : World) : Calls Tryz.prog 14 #[.pointer none] w fun e w' => e = .returned (.slice none 0 0) ∧ w' = w := by
  go_enter Tryz.func14, Tryz.ntmps14
  go_wp2
  go_ret
  exact ⟨rfl, rfl⟩
set_option maxRecDepth 100000 in
theorem bholds_any (q : Pl) (b : Bk) (w : World) (h : BkS w q b) : Calls Tryz.prog 15 #[.pointer (some ⟨q.p, 0, none⟩)] w (RetOwn w 44 3 none b.H.length (hds b.H)) := by
  have HA := Lib.hid (allH_any q.h q.k b.H w h.hd (by have := h.inv.st.len; omega))
  have x : w.cell? ⟨q.p, 1, none⟩ = some (.pointer (some ⟨q.h, 0, none⟩)) := h.blk.cell 1
  clear h
  go_enter Tryz.func15, Tryz.ntmps15
  go_wp2_with fail
  (with_reducible refine HA.out.mono ?_)
  rintro e w1 ⟨v, rfl, hr⟩
  have HR := Lib.hid hr
  clear hr x
  go_wp2
  go_ret
  exact ⟨v, rfl, HR.out⟩
theorem bholds_nil (w : World) : Calls Tryz.prog 15 #[.pointer none] w fun e w' => e = .returned (.slice none 0 0) ∧ w' = w := by
  go_enter Tryz.func15, Tryz.ntmps15
  go_wp2
  go_ret
  exact ⟨rfl, rfl⟩
theorem bclosed_any (q : Pl) (b : Bk) (w : World) (h : BkS w q b) : Calls Tryz.prog 16 #[.pointer (some ⟨q.p, 0, none⟩)] w fun e w' => e = .returned (.int .i64 b.cl) ∧ w = w' := by
  have x : w.cell? ⟨q.p, 2, none⟩ = some (.int .i64 b.cl) := h.blk.cell 2
  clear h
  go_enter Tryz.func16, Tryz.ntmps16
  go_wp2
  go_ret
  exact ⟨rfl, rfl⟩
theorem bcopy_nil (w : World) : Calls Tryz.prog 11 #[.pointer none] w fun e w' => e = .returned (.pointer none) ∧ w' = w := by
  go_enter Tryz.func11, Tryz.ntmps11
  go_wp2
  go_ret
  exact ⟨rfl, rfl⟩
/-- a new book -/
def NewB (w : World) (b : Bk) (e : Ending) (w' : World) : Prop := ∃ q : Pl, e = .returned (.pointer (some ⟨q.p, 0, none⟩)) ∧ BkS w' q b ∧ Fr No w w' ∧ ∀ i, q.all i → w.heap.size ≤ i
theorem NewB.of {w w' : World} {b : Bk} {c m h k : Nat} (hc : ChS w' c m b.S) (hh : HdS w' h k b.H) (hne : k ≠ m) (hi : BkI b) (hf : Fr No w w') (h1 : w.heap.size ≤ c) (h2 : w.heap.size ≤ m) (h3 : w.heap.size ≤ h) (h4 : w.heap.size ≤ k) :
    NewB w b (.returned (.pointer (some ⟨w'.heap.size, 0, none⟩))) (w'.alloc (.cells #[.pointer (some ⟨c, 0, none⟩), .pointer (some ⟨h, 0, none⟩), .int .i64 b.cl] 61)) := by
  refine ⟨⟨w'.heap.size, c, m, h, k⟩, rfl, ⟨Blk.new w' _ _, hc.no ((Fr.refl _ _).alloc _), hh.no ((Fr.refl _ _).alloc _), hne, hi⟩, hf.alloc _, ?_⟩
  intro i hi
  have := hf.size
  rcases hi with e | e | e | e | e <;> simp only at e <;> omega
set_option maxRecDepth 100000 in
set_option maxHeartbeats 2000000 in
theorem bcopy_any (q : Pl) (b : Bk) (w : World) (h : BkS w q b) : Calls Tryz.prog 11 #[.pointer (some ⟨q.p, 0, none⟩)] w (NewB w b) := by
  have HH := Lib.hid h
  have HX : Hid (∀ W, Fr No w W → Fr No w W ∧ W.cell? ⟨q.p, 0, none⟩ = some (.pointer (some ⟨q.c, 0, none⟩)) ∧ W.cell? ⟨q.p, 1, none⟩ = some (.pointer (some ⟨q.h, 0, none⟩)) ∧ W.cell? ⟨q.p, 2, none⟩ = some (.int .i64 b.cl)) := fun W hW => by
    have h1 := h.blk.fr hW (fun h => h)
    exact ⟨hW, h1.cell 0, h1.cell 1, h1.cell 2⟩
  have hw : Fr No w w.drew := (Fr.refl _ w).drew
  clear h
  go_enter Tryz.func11, Tryz.ntmps11
  go_upto_region 3 with (fail)
  go_region_held3 (fun W => Fr No w W ∧ W.cell? ⟨q.p, 0, none⟩ = some (.pointer (some ⟨q.c, 0, none⟩)) ∧ W.cell? ⟨q.p, 1, none⟩ = some (.pointer (some ⟨q.h, 0, none⟩)) ∧ W.cell? ⟨q.p, 2, none⟩ = some (.int .i64 b.cl))
    (first
      | (refine HX.out _ ?_; with_reducible assumption)
      | (refine HX.out _ (Fr.alloc ?_ _); with_reducible assumption))
    (first
      | (go_at_call 21; (with_reducible refine (copy_any q.c q.m b.S _ (HH.out.ch.no hw)).mono ?_); rintro e u1 ⟨c, m, rfl, hc1, hg, hc, hm⟩; have ka1 : Fr No w u1 := Fr.trans hw hg; have hml := hc1.2.lt; clear hg)
      | (go_at_call 22; (with_reducible refine (copyH_any q.h q.k b.H _ (HH.out.hd.no ka1)).mono ?_); rintro e u2 ⟨h, k, rfl, hh2, hg, hh, hk⟩; have ka2 : Fr No w u2 := Fr.trans ka1 hg; have hc2 := hc1.no hg; clear hg))
  all_goals
    have hs1 := ka1.size
    have HN := Lib.hid (NewB.of hc2 hh2 (by omega) HH.out.inv ka2 hc hm (by omega) (by omega))
    go_wp2
    go_ret
    exact HN.out
/-- the same accounts, holds, last closed period -/
def sameBk (a b : Bk) : Bool := decide (a.S = b.S ∧ a.H = b.H ∧ a.cl = b.cl)
set_option maxRecDepth 100000 in
set_option maxHeartbeats 4000000 in
theorem bsameA (p q : Pl) (a b : Bk) (w : World) (ha : BkS w p a) (hb : BkS w q b) (hd : ¬ a.S = b.S) : Calls Tryz.prog 13 #[.pointer (some ⟨p.p, 0, none⟩), .pointer (some ⟨q.p, 0, none⟩)] w fun e w' => e = .returned (.bool (false)) ∧ Fr No w w' := by
  have HA := Lib.hid ha
  have HB := Lib.hid hb
  have HD := Lib.hid hd
  have HX : Hid (∀ W, Fr No w W → Fr No w W ∧ W.cell? ⟨p.p, 2, none⟩ = some (.int .i64 a.cl) ∧ W.cell? ⟨q.p, 2, none⟩ = some (.int .i64 b.cl)) := fun W hW => ⟨hW, (ha.blk.fr hW (fun h => h)).cell 2, (hb.blk.fr hW (fun h => h)).cell 2⟩
  have hw : Fr No w w.drew := (Fr.refl _ w).drew
  clear ha hb hd
  go_enter Tryz.func13, Tryz.ntmps13
  go_upto_region 3 with (fail)
  refine wp_region_held_drew (S := fun W => Fr No w W ∧ W.cell? ⟨p.p, 2, none⟩ = some (.int .i64 a.cl) ∧ W.cell? ⟨q.p, 2, none⟩ = some (.int .i64 b.cl)) (by kernel_rfl) ?_ (fun hH0 => ?_)
  · exact HX.out _ hw
  refine wpAnyH_take (i := 0) (v := ?_) rfl (by kernel_rfl) (by kernel_rfl) (by kernel_rfl) (fun _ _ _ h => h) (Or.inl ⟨by rfl, ?_⟩) hH0 ?_
  rotate_left
  · (intro w hSw; (try dsimp only at hSw); go_simp; try with_reducible rfl)
  (try simp only [Act.put, List.getElem_toArray, List.getElem_cons_zero, List.getElem_cons_succ, List.setIfInBounds_toArray, List.set_cons_zero, List.set_cons_succ])
  refine wpAnyH_take (i := 2) (v := ?_) rfl (by kernel_rfl) (by kernel_rfl) (by kernel_rfl) (fun _ _ _ h => h) (Or.inl ⟨by rfl, ?_⟩) hH0 ?_
  rotate_left
  · (intro w hSw; (try dsimp only at hSw); go_simp; try with_reducible rfl)
  (try simp only [Act.put, List.getElem_toArray, List.getElem_cons_zero, List.getElem_cons_succ, List.setIfInBounds_toArray, List.set_cons_zero, List.set_cons_succ])
  refine wpAnyH_ready (rs := [1]) (by kernel_rfl) (by simp) ?_
  refine AllReadyH.cons rfl (fun K hK => ?_) ?_
  · go_simp
    (with_reducible refine (baccts_any p a _ (HA.out.no hw)).mono ?_)
    rintro e u1 ⟨v1, rfl, ho1, hg, -⟩
    obtain ⟨A1, c1, rfl, hl1, hm1⟩ := ho1.form
    have ka1 : Fr No w u1 := Fr.trans hw (fr_at_none hg)
    have HO1 := Lib.hid ho1.rd
    clear hg ho1
    refine hK.out _ _ ?_ (fun hH1 => ?_)
    · exact HX.out _ ka1
    clear hK K
    (try simp only [Act.put, List.getElem_toArray, List.getElem_cons_zero, List.getElem_cons_succ, List.setIfInBounds_toArray, List.set_cons_zero, List.set_cons_succ])
    refine wpAnyH_ready (rs := [3]) (by kernel_rfl) (by simp) ?_
    refine AllReadyH.cons rfl (fun K hK => ?_) ?_
    · go_simp
      (with_reducible refine (baccts_any q b _ (HB.out.no ka1)).mono ?_)
      rintro e u2 ⟨v2, rfl, ho2, hg, -⟩
      obtain ⟨A2, c2, rfl, hl2, hm2⟩ := ho2.form
      have ka2 : Fr No w u2 := Fr.trans ka1 (fr_at_none hg)
      have HO12 := Lib.hid (HO1.out.fr (by omega) (fr_at_none hg) (fun _ _ _ h => h))
      have HO2 := Lib.hid ho2.rd
      clear hg ho2
      refine hK.out _ _ ?_ (fun hH2 => ?_)
      · exact HX.out _ ka2
      clear hK K
      (try simp only [Act.put, List.getElem_toArray, List.getElem_cons_zero, List.getElem_cons_succ, List.setIfInBounds_toArray, List.set_cons_zero, List.set_cons_succ])
      refine wpAnyH_ready (rs := [4]) (by kernel_rfl) (by simp) ?_
      refine AllReadyH.cons rfl (fun K hK => ?_) ?_
      · go_simp
        have q1 := equalA_any _ _ A1 A2 c1 c2 a.S b.S u2 HO12.out HO2.out (by have := HA.out.inv.st.kp.inv.len; omega)
        rw [decide_eq_false HD.out] at q1
        (with_reducible refine q1.mono ?_)
        rintro e u3 ⟨rfl, nq, rfl⟩
        have ka3 : Fr No w (u2.drewN nq) := ka2.drewN nq
        clear q1
        refine hK.out _ _ ?_ (fun hH3 => ?_)
        · exact HX.out _ ka3
        clear hK K
        (try simp only [Act.put, List.getElem_toArray, List.getElem_cons_zero, List.getElem_cons_succ, List.setIfInBounds_toArray, List.set_cons_zero, List.set_cons_succ])
        refine wpAnyH_take (i := 5) (v := ?_) rfl (by kernel_rfl) (by kernel_rfl) (by kernel_rfl) (fun _ _ _ h => h) (Or.inl ⟨by rfl, ?_⟩) hH3 ?_
        rotate_left
        · (intro w hSw; (try dsimp only at hSw); go_simp; try with_reducible rfl)
        (try simp only [Act.put, List.getElem_toArray, List.getElem_cons_zero, List.getElem_cons_succ, List.setIfInBounds_toArray, List.set_cons_zero, List.set_cons_succ])
        refine wpAnyH_take (i := 6) (v := undef) rfl (by kernel_rfl) (by kernel_rfl) (by kernel_rfl) (fun _ _ _ h => h) (Or.inr ⟨by rfl, rfl⟩) hH3 ?_
        (try simp only [Act.put, List.getElem_toArray, List.getElem_cons_zero, List.getElem_cons_succ, List.setIfInBounds_toArray, List.set_cons_zero, List.set_cons_succ])
        refine wpAnyH_take (i := 7) (v := undef) rfl (by kernel_rfl) (by kernel_rfl) (by kernel_rfl) (fun _ _ _ h => h) (Or.inr ⟨by rfl, rfl⟩) hH3 ?_
        (try simp only [Act.put, List.getElem_toArray, List.getElem_cons_zero, List.getElem_cons_succ, List.setIfInBounds_toArray, List.set_cons_zero, List.set_cons_succ])
        refine wpAnyH_take (i := 8) (v := undef) rfl (by kernel_rfl) (by kernel_rfl) (by kernel_rfl) (fun _ _ _ h => h) (Or.inr ⟨by rfl, rfl⟩) hH3 ?_
        (try simp only [Act.put, List.getElem_toArray, List.getElem_cons_zero, List.getElem_cons_succ, List.setIfInBounds_toArray, List.set_cons_zero, List.set_cons_succ])
        refine wpAnyH_take (i := 9) (v := undef) rfl (by kernel_rfl) (by kernel_rfl) (by kernel_rfl) (fun _ _ _ h => h) (Or.inr ⟨by rfl, rfl⟩) hH3 ?_
        (try simp only [Act.put, List.getElem_toArray, List.getElem_cons_zero, List.getElem_cons_succ, List.setIfInBounds_toArray, List.set_cons_zero, List.set_cons_succ])
        refine wpAnyH_take (i := 10) (v := undef) rfl (by kernel_rfl) (by kernel_rfl) (by kernel_rfl) (fun _ _ _ h => h) (Or.inr ⟨by rfl, rfl⟩) hH3 ?_
        (try simp only [Act.put, List.getElem_toArray, List.getElem_cons_zero, List.getElem_cons_succ, List.setIfInBounds_toArray, List.set_cons_zero, List.set_cons_succ])
        refine wpAnyH_take (i := 11) (v := ?_) rfl (by kernel_rfl) (by kernel_rfl) (by kernel_rfl) (fun _ _ _ h => h) (Or.inl ⟨by rfl, ?_⟩) hH3 ?_
        rotate_left
        · (intro w hSw; (try dsimp only at hSw); go_simp; try with_reducible rfl)
        (try simp only [Act.put, List.getElem_toArray, List.getElem_cons_zero, List.getElem_cons_succ, List.setIfInBounds_toArray, List.set_cons_zero, List.set_cons_succ])
        refine wpAnyH_take (i := 12) (v := ?_) rfl (by kernel_rfl) (by kernel_rfl) (by kernel_rfl) (fun _ _ _ h => h) (Or.inl ⟨by rfl, ?_⟩) hH3 ?_
        rotate_left
        · (intro w hSw; (try dsimp only at hSw); go_simp; try with_reducible rfl)
        (try simp only [Act.put, List.getElem_toArray, List.getElem_cons_zero, List.getElem_cons_succ, List.setIfInBounds_toArray, List.set_cons_zero, List.set_cons_succ])
        refine wpAnyH_take (i := 13) (v := undef) rfl (by kernel_rfl) (by kernel_rfl) (by kernel_rfl) (fun _ _ _ h => h) (Or.inr ⟨by rfl, rfl⟩) hH3 ?_
        (try simp only [Act.put, List.getElem_toArray, List.getElem_cons_zero, List.getElem_cons_succ, List.setIfInBounds_toArray, List.set_cons_zero, List.set_cons_succ])
        refine wpAnyH_take (i := 14) (v := undef) rfl (by kernel_rfl) (by kernel_rfl) (by kernel_rfl) (fun _ _ _ h => h) (Or.inr ⟨by rfl, rfl⟩) hH3 ?_
        (try simp only [Act.put, List.getElem_toArray, List.getElem_cons_zero, List.getElem_cons_succ, List.setIfInBounds_toArray, List.set_cons_zero, List.set_cons_succ])
        refine wpAnyH_take (i := 15) (v := undef) rfl (by kernel_rfl) (by kernel_rfl) (by kernel_rfl) (fun _ _ _ h => h) (Or.inr ⟨by rfl, rfl⟩) hH3 ?_
        (try simp only [Act.put, List.getElem_toArray, List.getElem_cons_zero, List.getElem_cons_succ, List.setIfInBounds_toArray, List.set_cons_zero, List.set_cons_succ])
        refine wpAnyH_take (i := 16) (v := undef) rfl (by kernel_rfl) (by kernel_rfl) (by kernel_rfl) (fun _ _ _ h => h) (Or.inr ⟨by rfl, rfl⟩) hH3 ?_
        (try simp only [Act.put, List.getElem_toArray, List.getElem_cons_zero, List.getElem_cons_succ, List.setIfInBounds_toArray, List.set_cons_zero, List.set_cons_succ])
        refine wpAnyH_take (i := 17) (v := undef) rfl (by kernel_rfl) (by kernel_rfl) (by kernel_rfl) (fun _ _ _ h => h) (Or.inr ⟨by rfl, rfl⟩) hH3 ?_
        (try simp only [Act.put, List.getElem_toArray, List.getElem_cons_zero, List.getElem_cons_succ, List.setIfInBounds_toArray, List.set_cons_zero, List.set_cons_succ])
        refine wpAnyH_take (i := 18) (v := undef) rfl (by kernel_rfl) (by kernel_rfl) (by kernel_rfl) (fun _ _ _ h => h) (Or.inr ⟨by rfl, rfl⟩) hH3 ?_
        (try simp only [Act.put, List.getElem_toArray, List.getElem_cons_zero, List.getElem_cons_succ, List.setIfInBounds_toArray, List.set_cons_zero, List.set_cons_succ])
        refine wpAnyH_take (i := 19) (v := undef) rfl (by kernel_rfl) (by kernel_rfl) (by kernel_rfl) (fun _ _ _ h => h) (Or.inr ⟨by rfl, rfl⟩) hH3 ?_
        (try simp only [Act.put, List.getElem_toArray, List.getElem_cons_zero, List.getElem_cons_succ, List.setIfInBounds_toArray, List.set_cons_zero, List.set_cons_succ])
        refine wpAnyH_take (i := 20) (v := undef) rfl (by kernel_rfl) (by kernel_rfl) (by kernel_rfl) (fun _ _ _ h => h) (Or.inr ⟨by rfl, rfl⟩) hH3 ?_
        (try simp only [Act.put, List.getElem_toArray, List.getElem_cons_zero, List.getElem_cons_succ, List.setIfInBounds_toArray, List.set_cons_zero, List.set_cons_succ])
        refine wpAnyH_take (i := 21) (v := undef) rfl (by kernel_rfl) (by kernel_rfl) (by kernel_rfl) (fun _ _ _ h => h) (Or.inr ⟨by rfl, rfl⟩) hH3 ?_
        (try simp only [Act.put, List.getElem_toArray, List.getElem_cons_zero, List.getElem_cons_succ, List.setIfInBounds_toArray, List.set_cons_zero, List.set_cons_succ])
        refine wpAnyH_take (i := 22) (v := ?_) rfl (by kernel_rfl) (by kernel_rfl) (by kernel_rfl) (fun _ _ _ h => h) (Or.inl ⟨by rfl, ?_⟩) hH3 ?_
        rotate_left
        · (intro w hSw; (try dsimp only at hSw); go_simp; try with_reducible rfl)
        (try simp only [Act.put, List.getElem_toArray, List.getElem_cons_zero, List.getElem_cons_succ, List.setIfInBounds_toArray, List.set_cons_zero, List.set_cons_succ])
        refine wpAnyH_take (i := 23) (v := ?_) rfl (by kernel_rfl) (by kernel_rfl) (by kernel_rfl) (fun _ _ _ h => h) (Or.inl ⟨by rfl, ?_⟩) hH3 ?_
        rotate_left
        · (intro w hSw; (try dsimp only at hSw); go_simp; try with_reducible rfl)
        (try simp only [Act.put, List.getElem_toArray, List.getElem_cons_zero, List.getElem_cons_succ, List.setIfInBounds_toArray, List.set_cons_zero, List.set_cons_succ])
        refine wpAnyH_done (by kernel_rfl) ?_ _
        go_wp2
        go_ret
        exact ⟨rfl, ka3⟩
      exact AllReadyH.nil
    exact AllReadyH.nil
  exact AllReadyH.nil
set_option maxRecDepth 100000 in
set_option maxHeartbeats 4000000 in
theorem bsameH (p q : Pl) (a b : Bk) (w : World) (ha : BkS w p a) (hb : BkS w q b) (hd : a.S = b.S) (hdh : ¬ a.H = b.H) : Calls Tryz.prog 13 #[.pointer (some ⟨p.p, 0, none⟩), .pointer (some ⟨q.p, 0, none⟩)] w fun e w' => e = .returned (.bool (false)) ∧ Fr No w w' := by
  have HA := Lib.hid ha
  have HB := Lib.hid hb
  have HD := Lib.hid hd
  have HDH := Lib.hid hdh
  have HX : Hid (∀ W, Fr No w W → Fr No w W ∧ W.cell? ⟨p.p, 2, none⟩ = some (.int .i64 a.cl) ∧ W.cell? ⟨q.p, 2, none⟩ = some (.int .i64 b.cl)) := fun W hW => ⟨hW, (ha.blk.fr hW (fun h => h)).cell 2, (hb.blk.fr hW (fun h => h)).cell 2⟩
  have hw : Fr No w w.drew := (Fr.refl _ w).drew
  clear ha hb hd hdh
  go_enter Tryz.func13, Tryz.ntmps13
  go_upto_region 3 with (fail)
  refine wp_region_held_drew (S := fun W => Fr No w W ∧ W.cell? ⟨p.p, 2, none⟩ = some (.int .i64 a.cl) ∧ W.cell? ⟨q.p, 2, none⟩ = some (.int .i64 b.cl)) (by kernel_rfl) ?_ (fun hH0 => ?_)
  · exact HX.out _ hw
  refine wpAnyH_take (i := 0) (v := ?_) rfl (by kernel_rfl) (by kernel_rfl) (by kernel_rfl) (fun _ _ _ h => h) (Or.inl ⟨by rfl, ?_⟩) hH0 ?_
  rotate_left
  · (intro w hSw; (try dsimp only at hSw); go_simp; try with_reducible rfl)
  (try simp only [Act.put, List.getElem_toArray, List.getElem_cons_zero, List.getElem_cons_succ, List.setIfInBounds_toArray, List.set_cons_zero, List.set_cons_succ])
  refine wpAnyH_take (i := 2) (v := ?_) rfl (by kernel_rfl) (by kernel_rfl) (by kernel_rfl) (fun _ _ _ h => h) (Or.inl ⟨by rfl, ?_⟩) hH0 ?_
  rotate_left
  · (intro w hSw; (try dsimp only at hSw); go_simp; try with_reducible rfl)
  (try simp only [Act.put, List.getElem_toArray, List.getElem_cons_zero, List.getElem_cons_succ, List.setIfInBounds_toArray, List.set_cons_zero, List.set_cons_succ])
  refine wpAnyH_ready (rs := [1]) (by kernel_rfl) (by simp) ?_
  refine AllReadyH.cons rfl (fun K hK => ?_) ?_
  · go_simp
    (with_reducible refine (baccts_any p a _ (HA.out.no hw)).mono ?_)
    rintro e u1 ⟨v1, rfl, ho1, hg, -⟩
    obtain ⟨A1, c1, rfl, hl1, hm1⟩ := ho1.form
    have ka1 : Fr No w u1 := Fr.trans hw (fr_at_none hg)
    have HO1 := Lib.hid ho1.rd
    clear hg ho1
    refine hK.out _ _ ?_ (fun hH1 => ?_)
    · exact HX.out _ ka1
    clear hK K
    (try simp only [Act.put, List.getElem_toArray, List.getElem_cons_zero, List.getElem_cons_succ, List.setIfInBounds_toArray, List.set_cons_zero, List.set_cons_succ])
    refine wpAnyH_ready (rs := [3]) (by kernel_rfl) (by simp) ?_
    refine AllReadyH.cons rfl (fun K hK => ?_) ?_
    · go_simp
      (with_reducible refine (baccts_any q b _ (HB.out.no ka1)).mono ?_)
      rintro e u2 ⟨v2, rfl, ho2, hg, -⟩
      obtain ⟨A2, c2, rfl, hl2, hm2⟩ := ho2.form
      have ka2 : Fr No w u2 := Fr.trans ka1 (fr_at_none hg)
      have HO12 := Lib.hid (HO1.out.fr (by omega) (fr_at_none hg) (fun _ _ _ h => h))
      have HO2 := Lib.hid ho2.rd
      clear hg ho2
      refine hK.out _ _ ?_ (fun hH2 => ?_)
      · exact HX.out _ ka2
      clear hK K
      (try simp only [Act.put, List.getElem_toArray, List.getElem_cons_zero, List.getElem_cons_succ, List.setIfInBounds_toArray, List.set_cons_zero, List.set_cons_succ])
      refine wpAnyH_ready (rs := [4]) (by kernel_rfl) (by simp) ?_
      refine AllReadyH.cons rfl (fun K hK => ?_) ?_
      · go_simp
        have q1 := equalA_any _ _ A1 A2 c1 c2 a.S b.S u2 HO12.out HO2.out (by have := HA.out.inv.st.kp.inv.len; omega)
        rw [decide_eq_true HD.out] at q1
        (with_reducible refine q1.mono ?_)
        rintro e u3 ⟨rfl, nq, rfl⟩
        have ka3 : Fr No w (u2.drewN nq) := ka2.drewN nq
        clear q1
        refine hK.out _ _ ?_ (fun hH3 => ?_)
        · exact HX.out _ ka3
        clear hK K
        (try simp only [Act.put, List.getElem_toArray, List.getElem_cons_zero, List.getElem_cons_succ, List.setIfInBounds_toArray, List.set_cons_zero, List.set_cons_succ])
        refine wpAnyH_take (i := 5) (v := ?_) rfl (by kernel_rfl) (by kernel_rfl) (by kernel_rfl) (fun _ _ _ h => h) (Or.inl ⟨by rfl, ?_⟩) hH3 ?_
        rotate_left
        · (intro w hSw; (try dsimp only at hSw); go_simp; try with_reducible rfl)
        (try simp only [Act.put, List.getElem_toArray, List.getElem_cons_zero, List.getElem_cons_succ, List.setIfInBounds_toArray, List.set_cons_zero, List.set_cons_succ])
        refine wpAnyH_take (i := 6) (v := ?_) rfl (by kernel_rfl) (by kernel_rfl) (by kernel_rfl) (fun _ _ _ h => h) (Or.inl ⟨by rfl, ?_⟩) hH3 ?_
        rotate_left
        · (intro w hSw; (try dsimp only at hSw); go_simp; try with_reducible rfl)
        (try simp only [Act.put, List.getElem_toArray, List.getElem_cons_zero, List.getElem_cons_succ, List.setIfInBounds_toArray, List.set_cons_zero, List.set_cons_succ])
        refine wpAnyH_take (i := 8) (v := ?_) rfl (by kernel_rfl) (by kernel_rfl) (by kernel_rfl) (fun _ _ _ h => h) (Or.inl ⟨by rfl, ?_⟩) hH3 ?_
        rotate_left
        · (intro w hSw; (try dsimp only at hSw); go_simp; try with_reducible rfl)
        (try simp only [Act.put, List.getElem_toArray, List.getElem_cons_zero, List.getElem_cons_succ, List.setIfInBounds_toArray, List.set_cons_zero, List.set_cons_succ])
        refine wpAnyH_ready (rs := [7]) (by kernel_rfl) (by simp) ?_
        refine AllReadyH.cons rfl (fun K hK => ?_) ?_
        · go_simp
          (with_reducible refine (bholds_any p a _ (HA.out.no ka3)).mono ?_)
          rintro e u4 ⟨v4, rfl, ho4, hg, -⟩
          obtain ⟨A4, c4, rfl, hl4, hm4⟩ := ho4.form
          have ka4 : Fr No w u4 := Fr.trans ka3 (fr_at_none hg)
          have HO4 := Lib.hid ho4.rd
          clear hg ho4
          refine hK.out _ _ ?_ (fun hH4 => ?_)
          · exact HX.out _ ka4
          clear hK K
          (try simp only [Act.put, List.getElem_toArray, List.getElem_cons_zero, List.getElem_cons_succ, List.setIfInBounds_toArray, List.set_cons_zero, List.set_cons_succ])
          refine wpAnyH_ready (rs := [9]) (by kernel_rfl) (by simp) ?_
          refine AllReadyH.cons rfl (fun K hK => ?_) ?_
          · go_simp
            (with_reducible refine (bholds_any q b _ (HB.out.no ka4)).mono ?_)
            rintro e u5 ⟨v5, rfl, ho5, hg, -⟩
            obtain ⟨A5, c5, rfl, hl5, hm5⟩ := ho5.form
            have ka5 : Fr No w u5 := Fr.trans ka4 (fr_at_none hg)
            have HO45 := Lib.hid (HO4.out.fr (by omega) (fr_at_none hg) (fun _ _ _ h => h))
            have HO5 := Lib.hid ho5.rd
            clear hg ho5
            refine hK.out _ _ ?_ (fun hH5 => ?_)
            · exact HX.out _ ka5
            clear hK K
            (try simp only [Act.put, List.getElem_toArray, List.getElem_cons_zero, List.getElem_cons_succ, List.setIfInBounds_toArray, List.set_cons_zero, List.set_cons_succ])
            refine wpAnyH_ready (rs := [10]) (by kernel_rfl) (by simp) ?_
            refine AllReadyH.cons rfl (fun K hK => ?_) ?_
            · go_simp
              have q1 := equalH_any _ _ A4 A5 c4 c5 a.H b.H u5 HO45.out HO5.out (by have := HA.out.inv.st.len; omega)
              rw [decide_eq_false HDH.out] at q1
              (with_reducible refine q1.mono ?_)
              rintro e u6 ⟨rfl, nr, rfl⟩
              have ka6 : Fr No w (u5.drewN nr) := ka5.drewN nr
              clear q1
              refine hK.out _ _ ?_ (fun hH6 => ?_)
              · exact HX.out _ ka6
              clear hK K
              (try simp only [Act.put, List.getElem_toArray, List.getElem_cons_zero, List.getElem_cons_succ, List.setIfInBounds_toArray, List.set_cons_zero, List.set_cons_succ])
              refine wpAnyH_take (i := 11) (v := ?_) rfl (by kernel_rfl) (by kernel_rfl) (by kernel_rfl) (fun _ _ _ h => h) (Or.inl ⟨by rfl, ?_⟩) hH6 ?_
              rotate_left
              · (intro w hSw; (try dsimp only at hSw); go_simp; try with_reducible rfl)
              (try simp only [Act.put, List.getElem_toArray, List.getElem_cons_zero, List.getElem_cons_succ, List.setIfInBounds_toArray, List.set_cons_zero, List.set_cons_succ])
              refine wpAnyH_take (i := 12) (v := ?_) rfl (by kernel_rfl) (by kernel_rfl) (by kernel_rfl) (fun _ _ _ h => h) (Or.inl ⟨by rfl, ?_⟩) hH6 ?_
              rotate_left
              · (intro w hSw; (try dsimp only at hSw); go_simp; try with_reducible rfl)
              (try simp only [Act.put, List.getElem_toArray, List.getElem_cons_zero, List.getElem_cons_succ, List.setIfInBounds_toArray, List.set_cons_zero, List.set_cons_succ])
              refine wpAnyH_take (i := 13) (v := undef) rfl (by kernel_rfl) (by kernel_rfl) (by kernel_rfl) (fun _ _ _ h => h) (Or.inr ⟨by rfl, rfl⟩) hH6 ?_
              (try simp only [Act.put, List.getElem_toArray, List.getElem_cons_zero, List.getElem_cons_succ, List.setIfInBounds_toArray, List.set_cons_zero, List.set_cons_succ])
              refine wpAnyH_take (i := 14) (v := undef) rfl (by kernel_rfl) (by kernel_rfl) (by kernel_rfl) (fun _ _ _ h => h) (Or.inr ⟨by rfl, rfl⟩) hH6 ?_
              (try simp only [Act.put, List.getElem_toArray, List.getElem_cons_zero, List.getElem_cons_succ, List.setIfInBounds_toArray, List.set_cons_zero, List.set_cons_succ])
              refine wpAnyH_take (i := 15) (v := undef) rfl (by kernel_rfl) (by kernel_rfl) (by kernel_rfl) (fun _ _ _ h => h) (Or.inr ⟨by rfl, rfl⟩) hH6 ?_
              (try simp only [Act.put, List.getElem_toArray, List.getElem_cons_zero, List.getElem_cons_succ, List.setIfInBounds_toArray, List.set_cons_zero, List.set_cons_succ])
              refine wpAnyH_take (i := 16) (v := undef) rfl (by kernel_rfl) (by kernel_rfl) (by kernel_rfl) (fun _ _ _ h => h) (Or.inr ⟨by rfl, rfl⟩) hH6 ?_
              (try simp only [Act.put, List.getElem_toArray, List.getElem_cons_zero, List.getElem_cons_succ, List.setIfInBounds_toArray, List.set_cons_zero, List.set_cons_succ])
              refine wpAnyH_take (i := 17) (v := undef) rfl (by kernel_rfl) (by kernel_rfl) (by kernel_rfl) (fun _ _ _ h => h) (Or.inr ⟨by rfl, rfl⟩) hH6 ?_
              (try simp only [Act.put, List.getElem_toArray, List.getElem_cons_zero, List.getElem_cons_succ, List.setIfInBounds_toArray, List.set_cons_zero, List.set_cons_succ])
              refine wpAnyH_take (i := 18) (v := undef) rfl (by kernel_rfl) (by kernel_rfl) (by kernel_rfl) (fun _ _ _ h => h) (Or.inr ⟨by rfl, rfl⟩) hH6 ?_
              (try simp only [Act.put, List.getElem_toArray, List.getElem_cons_zero, List.getElem_cons_succ, List.setIfInBounds_toArray, List.set_cons_zero, List.set_cons_succ])
              refine wpAnyH_take (i := 19) (v := undef) rfl (by kernel_rfl) (by kernel_rfl) (by kernel_rfl) (fun _ _ _ h => h) (Or.inr ⟨by rfl, rfl⟩) hH6 ?_
              (try simp only [Act.put, List.getElem_toArray, List.getElem_cons_zero, List.getElem_cons_succ, List.setIfInBounds_toArray, List.set_cons_zero, List.set_cons_succ])
              refine wpAnyH_take (i := 20) (v := undef) rfl (by kernel_rfl) (by kernel_rfl) (by kernel_rfl) (fun _ _ _ h => h) (Or.inr ⟨by rfl, rfl⟩) hH6 ?_
              (try simp only [Act.put, List.getElem_toArray, List.getElem_cons_zero, List.getElem_cons_succ, List.setIfInBounds_toArray, List.set_cons_zero, List.set_cons_succ])
              refine wpAnyH_take (i := 21) (v := undef) rfl (by kernel_rfl) (by kernel_rfl) (by kernel_rfl) (fun _ _ _ h => h) (Or.inr ⟨by rfl, rfl⟩) hH6 ?_
              (try simp only [Act.put, List.getElem_toArray, List.getElem_cons_zero, List.getElem_cons_succ, List.setIfInBounds_toArray, List.set_cons_zero, List.set_cons_succ])
              refine wpAnyH_take (i := 22) (v := ?_) rfl (by kernel_rfl) (by kernel_rfl) (by kernel_rfl) (fun _ _ _ h => h) (Or.inl ⟨by rfl, ?_⟩) hH6 ?_
              rotate_left
              · (intro w hSw; (try dsimp only at hSw); go_simp; try with_reducible rfl)
              (try simp only [Act.put, List.getElem_toArray, List.getElem_cons_zero, List.getElem_cons_succ, List.setIfInBounds_toArray, List.set_cons_zero, List.set_cons_succ])
              refine wpAnyH_take (i := 23) (v := ?_) rfl (by kernel_rfl) (by kernel_rfl) (by kernel_rfl) (fun _ _ _ h => h) (Or.inl ⟨by rfl, ?_⟩) hH6 ?_
              rotate_left
              · (intro w hSw; (try dsimp only at hSw); go_simp; try with_reducible rfl)
              (try simp only [Act.put, List.getElem_toArray, List.getElem_cons_zero, List.getElem_cons_succ, List.setIfInBounds_toArray, List.set_cons_zero, List.set_cons_succ])
              refine wpAnyH_done (by kernel_rfl) ?_ _
              go_wp2
              go_ret
              exact ⟨rfl, ka6⟩
            exact AllReadyH.nil
          exact AllReadyH.nil
        exact AllReadyH.nil
      exact AllReadyH.nil
    exact AllReadyH.nil
  exact AllReadyH.nil
set_option maxRecDepth 100000 in
set_option maxHeartbeats 4000000 in
theorem bsameT (p q : Pl) (a b : Bk) (w : World) (ha : BkS w p a) (hb : BkS w q b) (hd : a.S = b.S) (hdh : a.H = b.H) : Calls Tryz.prog 13 #[.pointer (some ⟨p.p, 0, none⟩), .pointer (some ⟨q.p, 0, none⟩)] w fun e w' => e = .returned (.bool (decide (a.cl = b.cl))) ∧ Fr No w w' := by
  have HA := Lib.hid ha
  have HB := Lib.hid hb
  have HD := Lib.hid hd
  have HDH := Lib.hid hdh
  have HX : Hid (∀ W, Fr No w W → Fr No w W ∧ W.cell? ⟨p.p, 2, none⟩ = some (.int .i64 a.cl) ∧ W.cell? ⟨q.p, 2, none⟩ = some (.int .i64 b.cl)) := fun W hW => ⟨hW, (ha.blk.fr hW (fun h => h)).cell 2, (hb.blk.fr hW (fun h => h)).cell 2⟩
  have hw : Fr No w w.drew := (Fr.refl _ w).drew
  clear ha hb hd hdh
  go_enter Tryz.func13, Tryz.ntmps13
  go_upto_region 3 with (fail)
  refine wp_region_held_drew (S := fun W => Fr No w W ∧ W.cell? ⟨p.p, 2, none⟩ = some (.int .i64 a.cl) ∧ W.cell? ⟨q.p, 2, none⟩ = some (.int .i64 b.cl)) (by kernel_rfl) ?_ (fun hH0 => ?_)
  · exact HX.out _ hw
  refine wpAnyH_take (i := 0) (v := ?_) rfl (by kernel_rfl) (by kernel_rfl) (by kernel_rfl) (fun _ _ _ h => h) (Or.inl ⟨by rfl, ?_⟩) hH0 ?_
  rotate_left
  · (intro w hSw; (try dsimp only at hSw); go_simp; try with_reducible rfl)
  (try simp only [Act.put, List.getElem_toArray, List.getElem_cons_zero, List.getElem_cons_succ, List.setIfInBounds_toArray, List.set_cons_zero, List.set_cons_succ])
  refine wpAnyH_take (i := 2) (v := ?_) rfl (by kernel_rfl) (by kernel_rfl) (by kernel_rfl) (fun _ _ _ h => h) (Or.inl ⟨by rfl, ?_⟩) hH0 ?_
  rotate_left
  · (intro w hSw; (try dsimp only at hSw); go_simp; try with_reducible rfl)
  (try simp only [Act.put, List.getElem_toArray, List.getElem_cons_zero, List.getElem_cons_succ, List.setIfInBounds_toArray, List.set_cons_zero, List.set_cons_succ])
  refine wpAnyH_ready (rs := [1]) (by kernel_rfl) (by simp) ?_
  refine AllReadyH.cons rfl (fun K hK => ?_) ?_
  · go_simp
    (with_reducible refine (baccts_any p a _ (HA.out.no hw)).mono ?_)
    rintro e u1 ⟨v1, rfl, ho1, hg, -⟩
    obtain ⟨A1, c1, rfl, hl1, hm1⟩ := ho1.form
    have ka1 : Fr No w u1 := Fr.trans hw (fr_at_none hg)
    have HO1 := Lib.hid ho1.rd
    clear hg ho1
    refine hK.out _ _ ?_ (fun hH1 => ?_)
    · exact HX.out _ ka1
    clear hK K
    (try simp only [Act.put, List.getElem_toArray, List.getElem_cons_zero, List.getElem_cons_succ, List.setIfInBounds_toArray, List.set_cons_zero, List.set_cons_succ])
    refine wpAnyH_ready (rs := [3]) (by kernel_rfl) (by simp) ?_
    refine AllReadyH.cons rfl (fun K hK => ?_) ?_
    · go_simp
      (with_reducible refine (baccts_any q b _ (HB.out.no ka1)).mono ?_)
      rintro e u2 ⟨v2, rfl, ho2, hg, -⟩
      obtain ⟨A2, c2, rfl, hl2, hm2⟩ := ho2.form
      have ka2 : Fr No w u2 := Fr.trans ka1 (fr_at_none hg)
      have HO12 := Lib.hid (HO1.out.fr (by omega) (fr_at_none hg) (fun _ _ _ h => h))
      have HO2 := Lib.hid ho2.rd
      clear hg ho2
      refine hK.out _ _ ?_ (fun hH2 => ?_)
      · exact HX.out _ ka2
      clear hK K
      (try simp only [Act.put, List.getElem_toArray, List.getElem_cons_zero, List.getElem_cons_succ, List.setIfInBounds_toArray, List.set_cons_zero, List.set_cons_succ])
      refine wpAnyH_ready (rs := [4]) (by kernel_rfl) (by simp) ?_
      refine AllReadyH.cons rfl (fun K hK => ?_) ?_
      · go_simp
        have q1 := equalA_any _ _ A1 A2 c1 c2 a.S b.S u2 HO12.out HO2.out (by have := HA.out.inv.st.kp.inv.len; omega)
        rw [decide_eq_true HD.out] at q1
        (with_reducible refine q1.mono ?_)
        rintro e u3 ⟨rfl, nq, rfl⟩
        have ka3 : Fr No w (u2.drewN nq) := ka2.drewN nq
        clear q1
        refine hK.out _ _ ?_ (fun hH3 => ?_)
        · exact HX.out _ ka3
        clear hK K
        (try simp only [Act.put, List.getElem_toArray, List.getElem_cons_zero, List.getElem_cons_succ, List.setIfInBounds_toArray, List.set_cons_zero, List.set_cons_succ])
        refine wpAnyH_take (i := 5) (v := ?_) rfl (by kernel_rfl) (by kernel_rfl) (by kernel_rfl) (fun _ _ _ h => h) (Or.inl ⟨by rfl, ?_⟩) hH3 ?_
        rotate_left
        · (intro w hSw; (try dsimp only at hSw); go_simp; try with_reducible rfl)
        (try simp only [Act.put, List.getElem_toArray, List.getElem_cons_zero, List.getElem_cons_succ, List.setIfInBounds_toArray, List.set_cons_zero, List.set_cons_succ])
        refine wpAnyH_take (i := 6) (v := ?_) rfl (by kernel_rfl) (by kernel_rfl) (by kernel_rfl) (fun _ _ _ h => h) (Or.inl ⟨by rfl, ?_⟩) hH3 ?_
        rotate_left
        · (intro w hSw; (try dsimp only at hSw); go_simp; try with_reducible rfl)
        (try simp only [Act.put, List.getElem_toArray, List.getElem_cons_zero, List.getElem_cons_succ, List.setIfInBounds_toArray, List.set_cons_zero, List.set_cons_succ])
        refine wpAnyH_take (i := 8) (v := ?_) rfl (by kernel_rfl) (by kernel_rfl) (by kernel_rfl) (fun _ _ _ h => h) (Or.inl ⟨by rfl, ?_⟩) hH3 ?_
        rotate_left
        · (intro w hSw; (try dsimp only at hSw); go_simp; try with_reducible rfl)
        (try simp only [Act.put, List.getElem_toArray, List.getElem_cons_zero, List.getElem_cons_succ, List.setIfInBounds_toArray, List.set_cons_zero, List.set_cons_succ])
        refine wpAnyH_ready (rs := [7]) (by kernel_rfl) (by simp) ?_
        refine AllReadyH.cons rfl (fun K hK => ?_) ?_
        · go_simp
          (with_reducible refine (bholds_any p a _ (HA.out.no ka3)).mono ?_)
          rintro e u4 ⟨v4, rfl, ho4, hg, -⟩
          obtain ⟨A4, c4, rfl, hl4, hm4⟩ := ho4.form
          have ka4 : Fr No w u4 := Fr.trans ka3 (fr_at_none hg)
          have HO4 := Lib.hid ho4.rd
          clear hg ho4
          refine hK.out _ _ ?_ (fun hH4 => ?_)
          · exact HX.out _ ka4
          clear hK K
          (try simp only [Act.put, List.getElem_toArray, List.getElem_cons_zero, List.getElem_cons_succ, List.setIfInBounds_toArray, List.set_cons_zero, List.set_cons_succ])
          refine wpAnyH_ready (rs := [9]) (by kernel_rfl) (by simp) ?_
          refine AllReadyH.cons rfl (fun K hK => ?_) ?_
          · go_simp
            (with_reducible refine (bholds_any q b _ (HB.out.no ka4)).mono ?_)
            rintro e u5 ⟨v5, rfl, ho5, hg, -⟩
            obtain ⟨A5, c5, rfl, hl5, hm5⟩ := ho5.form
            have ka5 : Fr No w u5 := Fr.trans ka4 (fr_at_none hg)
            have HO45 := Lib.hid (HO4.out.fr (by omega) (fr_at_none hg) (fun _ _ _ h => h))
            have HO5 := Lib.hid ho5.rd
            clear hg ho5
            refine hK.out _ _ ?_ (fun hH5 => ?_)
            · exact HX.out _ ka5
            clear hK K
            (try simp only [Act.put, List.getElem_toArray, List.getElem_cons_zero, List.getElem_cons_succ, List.setIfInBounds_toArray, List.set_cons_zero, List.set_cons_succ])
            refine wpAnyH_ready (rs := [10]) (by kernel_rfl) (by simp) ?_
            refine AllReadyH.cons rfl (fun K hK => ?_) ?_
            · go_simp
              have q1 := equalH_any _ _ A4 A5 c4 c5 a.H b.H u5 HO45.out HO5.out (by have := HA.out.inv.st.len; omega)
              rw [decide_eq_true HDH.out] at q1
              (with_reducible refine q1.mono ?_)
              rintro e u6 ⟨rfl, nr, rfl⟩
              have ka6 : Fr No w (u5.drewN nr) := ka5.drewN nr
              clear q1
              refine hK.out _ _ ?_ (fun hH6 => ?_)
              · exact HX.out _ ka6
              clear hK K
              (try simp only [Act.put, List.getElem_toArray, List.getElem_cons_zero, List.getElem_cons_succ, List.setIfInBounds_toArray, List.set_cons_zero, List.set_cons_succ])
              refine wpAnyH_take (i := 11) (v := ?_) rfl (by kernel_rfl) (by kernel_rfl) (by kernel_rfl) (fun _ _ _ h => h) (Or.inl ⟨by rfl, ?_⟩) hH6 ?_
              rotate_left
              · (intro w hSw; (try dsimp only at hSw); go_simp; try with_reducible rfl)
              (try simp only [Act.put, List.getElem_toArray, List.getElem_cons_zero, List.getElem_cons_succ, List.setIfInBounds_toArray, List.set_cons_zero, List.set_cons_succ])
              refine wpAnyH_take (i := 12) (v := ?_) rfl (by kernel_rfl) (by kernel_rfl) (by kernel_rfl) (fun _ _ _ h => h) (Or.inl ⟨by rfl, ?_⟩) hH6 ?_
              rotate_left
              · (intro w hSw; (try dsimp only at hSw); go_simp; try with_reducible rfl)
              (try simp only [Act.put, List.getElem_toArray, List.getElem_cons_zero, List.getElem_cons_succ, List.setIfInBounds_toArray, List.set_cons_zero, List.set_cons_succ])
              refine wpAnyH_take (i := 13) (v := ?_) rfl (by kernel_rfl) (by kernel_rfl) (by kernel_rfl) (fun _ _ _ h => h) (Or.inl ⟨by rfl, ?_⟩) hH6 ?_
              rotate_left
              · (intro w hSw; (try dsimp only at hSw); go_simp; try with_reducible rfl)
              (try simp only [Act.put, List.getElem_toArray, List.getElem_cons_zero, List.getElem_cons_succ, List.setIfInBounds_toArray, List.set_cons_zero, List.set_cons_succ])
              refine wpAnyH_take (i := 14) (v := ?_) rfl (by kernel_rfl) (by kernel_rfl) (by kernel_rfl) (fun _ _ _ h => h) (Or.inl ⟨by rfl, ?_⟩) hH6 ?_
              rotate_left
              · (intro w hSw; (try dsimp only at hSw); go_simp; try with_reducible rfl)
              (try simp only [Act.put, List.getElem_toArray, List.getElem_cons_zero, List.getElem_cons_succ, List.setIfInBounds_toArray, List.set_cons_zero, List.set_cons_succ])
              refine wpAnyH_take (i := 15) (v := ?_) rfl (by kernel_rfl) (by kernel_rfl) (by kernel_rfl) (fun _ _ _ h => h) (Or.inl ⟨by rfl, ?_⟩) hH6 ?_
              rotate_left
              · (intro w hSw; (try dsimp only at hSw); go_simp; try with_reducible rfl)
              (try simp only [Act.put, List.getElem_toArray, List.getElem_cons_zero, List.getElem_cons_succ, List.setIfInBounds_toArray, List.set_cons_zero, List.set_cons_succ])
              refine wpAnyH_take (i := 16) (v := ?_) rfl (by kernel_rfl) (by kernel_rfl) (by kernel_rfl) (fun _ _ _ h => h) (Or.inl ⟨by rfl, ?_⟩) hH6 ?_
              rotate_left
              · (intro w hSw; (try dsimp only at hSw); go_simp; try with_reducible rfl)
              (try simp only [Act.put, List.getElem_toArray, List.getElem_cons_zero, List.getElem_cons_succ, List.setIfInBounds_toArray, List.set_cons_zero, List.set_cons_succ])
              refine wpAnyH_take (i := 17) (v := ?_) rfl (by kernel_rfl) (by kernel_rfl) (by kernel_rfl) (fun _ _ _ h => h) (Or.inl ⟨by rfl, ?_⟩) hH6 ?_
              rotate_left
              · (intro w hSw; (try dsimp only at hSw); go_simp; try with_reducible rfl)
              (try simp only [Act.put, List.getElem_toArray, List.getElem_cons_zero, List.getElem_cons_succ, List.setIfInBounds_toArray, List.set_cons_zero, List.set_cons_succ])
              refine wpAnyH_take (i := 18) (v := ?_) rfl (by kernel_rfl) (by kernel_rfl) (by kernel_rfl) (fun _ _ _ h => h) (Or.inl ⟨by rfl, ?_⟩) hH6 ?_
              rotate_left
              · (intro w hSw; (try dsimp only at hSw); go_simp; try with_reducible rfl)
              (try simp only [Act.put, List.getElem_toArray, List.getElem_cons_zero, List.getElem_cons_succ, List.setIfInBounds_toArray, List.set_cons_zero, List.set_cons_succ])
              refine wpAnyH_take (i := 19) (v := ?_) rfl (by kernel_rfl) (by kernel_rfl) (by kernel_rfl) (fun _ _ _ h => h) (Or.inl ⟨by rfl, ?_⟩) hH6 ?_
              rotate_left
              · (intro w hSw; (try dsimp only at hSw); go_simp; try with_reducible rfl)
              (try simp only [Act.put, List.getElem_toArray, List.getElem_cons_zero, List.getElem_cons_succ, List.setIfInBounds_toArray, List.set_cons_zero, List.set_cons_succ])
              refine wpAnyH_take (i := 20) (v := ?_) rfl (by kernel_rfl) (by kernel_rfl) (by kernel_rfl) (fun _ _ _ h => h) (Or.inl ⟨by rfl, ?_⟩) hH6 ?_
              rotate_left
              · (intro w hSw; (try dsimp only at hSw); go_simp; try with_reducible rfl)
              (try simp only [Act.put, List.getElem_toArray, List.getElem_cons_zero, List.getElem_cons_succ, List.setIfInBounds_toArray, List.set_cons_zero, List.set_cons_succ])
              refine wpAnyH_take (i := 21) (v := ?_) rfl (by kernel_rfl) (by kernel_rfl) (by kernel_rfl) (fun _ _ _ h => h) (Or.inl ⟨by rfl, ?_⟩) hH6 ?_
              rotate_left
              · (intro w hSw; (try dsimp only at hSw); go_simp; try with_reducible rfl)
              (try simp only [Act.put, List.getElem_toArray, List.getElem_cons_zero, List.getElem_cons_succ, List.setIfInBounds_toArray, List.set_cons_zero, List.set_cons_succ])
              refine wpAnyH_take (i := 22) (v := ?_) rfl (by kernel_rfl) (by kernel_rfl) (by kernel_rfl) (fun _ _ _ h => h) (Or.inl ⟨by rfl, ?_⟩) hH6 ?_
              rotate_left
              · (intro w hSw; (try dsimp only at hSw); go_simp; try with_reducible rfl)
              (try simp only [Act.put, List.getElem_toArray, List.getElem_cons_zero, List.getElem_cons_succ, List.setIfInBounds_toArray, List.set_cons_zero, List.set_cons_succ])
              refine wpAnyH_take (i := 23) (v := ?_) rfl (by kernel_rfl) (by kernel_rfl) (by kernel_rfl) (fun _ _ _ h => h) (Or.inl ⟨by rfl, ?_⟩) hH6 ?_
              rotate_left
              · (intro w hSw; (try dsimp only at hSw); go_simp; try with_reducible rfl)
              (try simp only [Act.put, List.getElem_toArray, List.getElem_cons_zero, List.getElem_cons_succ, List.setIfInBounds_toArray, List.set_cons_zero, List.set_cons_succ])
              refine wpAnyH_done (by kernel_rfl) ?_ _
              go_wp2
              go_ret
              exact ⟨rfl, ka6⟩
            exact AllReadyH.nil
          exact AllReadyH.nil
        exact AllReadyH.nil
      exact AllReadyH.nil
    exact AllReadyH.nil
  exact AllReadyH.nil
theorem bsame_any (p q : Pl) (a b : Bk) (w : World) (ha : BkS w p a) (hb : BkS w q b) : Calls Tryz.prog 13 #[.pointer (some ⟨p.p, 0, none⟩), .pointer (some ⟨q.p, 0, none⟩)] w fun e w' => e = .returned (.bool (sameBk a b)) ∧ Fr No w w' := by
  unfold sameBk
  by_cases h1 : a.S = b.S
  · by_cases h2 : a.H = b.H
    · refine (bsameT p q a b w ha hb h1 h2).mono fun e w' h => ⟨?_, h.2⟩
      rw [h.1]
      simp only [h1, h2, true_and]
    · refine (bsameH p q a b w ha hb h1 h2).mono fun e w' h => ⟨?_, h.2⟩
      rw [h.1, decide_eq_false (fun e => h2 e.2.1)]
  · refine (bsameA p q a b w ha hb h1).mono fun e w' h => ⟨?_, h.2⟩
    rw [h.1, decide_eq_false (fun e => h1 e.1)]
theorem bsame_nil (w : World) : Calls Tryz.prog 13 #[.pointer none, .pointer none] w fun e w' => e = .returned (.bool true) ∧ w' = w := by
  go_enter Tryz.func13, Tryz.ntmps13
  go_wp2
  go_ret
  exact ⟨rfl, rfl⟩
theorem bsame_nilR (p : Nat) (w : World) : Calls Tryz.prog 13 #[.pointer (some ⟨p, 0, none⟩), .pointer none] w fun e w' => e = .returned (.bool false) ∧ w' = w := by
  go_enter Tryz.func13, Tryz.ntmps13
  go_wp2
  go_ret
  exact ⟨rfl, rfl⟩
end Go.Proofs.YtgklifbfbjdobaaGreat

namespace Go.Proofs.YtgklifbfbjdobaaGreat
open Go.RowKit Go.My Go.Maps
set_option linter.unusedSimpArgs false
set_option linter.unusedVariables false
attribute [local go_sem ↓] Go.wp_at_zero Go.wp_at_succ

def fewO (l : List Od) (n : Nat) : List Od := (l.take n).map Od.few
theorem fewO_length (l : List Od) (n : Nat) : (fewO l n).length = min n l.length := by unfold fewO; rw [List.length_map, List.length_take]
theorem fewO_succ (l : List Od) (k : Nat) (hk : k < l.length) : fewO l (k + 1) = fewO l k ++ [l[k].few] := by unfold fewO; rw [List.take_succ_eq_append_getElem hk, List.map_append]; rfl
/-- a row of the call's own that holds orders -/
def OwnO (w0 w : World) (v : Value) (l : List Od) : Prop := ∃ cells, Own w 35 10 v l.length cells ∧ Each (OdR w0) 10 cells l
theorem OwnO.nil (w0 w : World) : OwnO w0 w (.slice none 0 0) [] := ⟨[], Own.nil _ _ _, Each.nilO w0⟩
theorem OwnO.ods {w0 w : World} {A : Option Addr} {m c : Nat} {l : List Od} (h : OwnO w0 w (.slice A m c) l) : OdsS w0 w (fun k => (Value.slice A m c).ownBlock = some k) A l := by
  obtain ⟨cells, ho, hE⟩ := h
  exact ⟨cells, ho.rd, hE⟩
theorem OwnO.form {w0 w : World} {v : Value} {l : List Od} (h : OwnO w0 w v l) : ∃ A c, v = .slice A l.length c ∧ l.length ≤ c ∧ c ≤ maxLen := by
  obtain ⟨cells, ho, _⟩ := h
  exact ho.form
/-- what few hands back -/
theorem OwnO.ret {w0 w w' : World} {A : Option Addr} {c : Nat} {l : List Od} (h : OwnO w0 w' (.slice A l.length c) l) (hf : Fr No w w') (hn : Newer w.heap.size none (Value.slice A l.length c).ownBlock) : OdsS w0 w' (fun k => w.heap.size ≤ k) A l :=
  h.ods.more fun k hk => newer_none hn k hk
def FeRel (w0 w : World) (l : List Od) (n : Nat) (lv iv : Value) (wr : World) : Prop :=
  ∃ k : Nat, k ≤ l.length ∧ k ≤ n ∧ iv = .int .i64 k ∧ OwnO w0 wr lv (fewO l k) ∧ Fr No w wr ∧ Newer w.heap.size none lv.ownBlock
def FewRet (w0 w : World) (l : List Od) (e : Ending) (w' : World) : Prop := ∃ A c, e = .returned (.slice A l.length c) ∧ OdsS w0 w' (fun k => w.heap.size ≤ k) A l ∧ l.length ≤ c ∧ c ≤ maxLen ∧ Fr No w w'
set_option maxRecDepth 100000 in
set_option maxHeartbeats 4000000 in
theorem few9_any (w0 w : World) (F : Nat → Prop) (A : Option Addr) (c : Nat) (l : List Od) (n : Nat) (hl : OdsS w0 w F A l) (hlc : l.length ≤ c) (hcm : c ≤ maxLen) (hn : n ≤ 1000) :
    Calls Tryz.prog 10 #[.slice A l.length c, .int .i64 (n : Int)] w (FewRet w0 w (fewO l n)) := by
  have HL := Lib.hid hl
  have HCM := Lib.hid hcm
  have hlm : l.length ≤ 9223372036854775807 := by unfold maxLen at hcm; omega
  clear hl hcm
  go_enter Tryz.func10, Tryz.ntmps10
  go_wp2
  go_loopw [5, 6] (fun lv iv wr => FeRel w0 w l n lv iv wr) (fun _ iv _ => l.length - (intOf iv).toNat)
  case atStart => exact ⟨0, Nat.zero_le _, Nat.zero_le _, rfl, OwnO.nil _ _, Fr.refl _ _, .inl rfl⟩
  case round =>
    obtain ⟨k, hk, hkl, rfl, hown, hfr, hnew⟩ := hrel
    have hk62 : (k : Int) ≤ 9223372036854775807 := by omega
    by_cases hlt : k < l.length
    · by_cases hkn : k < n
      · obtain ⟨ad, v, rfl, _, hok, hg, hL, q0, q1, q2, q3, q4, q5, q6, q7, q8, q9⟩ := (HL.out.fr hfr (fun _ _ _ h => h)).at_ k hlt
        obtain ⟨B, d, rfl, hd1, hd2⟩ := hL.form
        have E : Hid (fewO l (k + 1) = fewO l k ++ [l[k].few]) := fewO_succ l k hlt
        have HO : Hid (OdR w0 (l[k].few.cs (.slice B (min l[k].legs.length 10) d)) l[k].few) := ⟨_, rfl, hok, fun g h => hg g (List.mem_of_mem_take h), hL.take 10⟩
        have hlk : (fewO l k).length = k := by rw [fewO_length]; omega
        obtain ⟨cells, ho, hE⟩ := hown
        have HE := Lib.hid hE
        have hX : Hid ((fewO l k).length + 1 ≤ maxLen ∧ ((fewO l k).length + 1) * 120 ≤ 140737488355328) := by
          rw [hlk]
          refine ⟨?_, ?_⟩ <;> (try simp only [maxLen]) <;> omega
        have HLK := Lib.hid hlk
        have hcs : Hid (l[k].few.cs (.slice B (min l[k].legs.length 10) d) = [.int .i64 l[k].cl, .int .i64 l[k].sq, .int .i64 l[k].kd, .string l[k].acct, .string l[k].peer, .int .i64 l[k].sum, .slice B (min l[k].legs.length 10) d, .int .i64 l[k].per, .int .i64 l[k].hold, .string l[k].note]) := rfl
        generalize l[k].few.cs (.slice B (min l[k].legs.length 10) d) = CS at *
        generalize l[k].few = of_ at *
        clear hok hg hL hE hlk hk62 hk
        generalize l[k].legs = L at *
        generalize l[k].cl = cl at *
        generalize l[k].sq = sq at *
        generalize l[k].kd = kd at *
        generalize l[k].acct = acct at *
        generalize l[k].peer = peer at *
        generalize l[k].sum = sum at *
        generalize l[k].per = per at *
        generalize l[k].hold = hold at *
        generalize l[k].note = note at *
        have hmn : (min (L.length : Int) 10).toNat = min L.length 10 := by omega
        have hmx : 0 ≤ min (L.length : Int) 10 ∧ min (L.length : Int) 10 ≤ (d : Int) := ⟨by omega, by omega⟩
        have hkni : (k : Int) < (n : Int) := by omega
        go_wp2_with (at_builtin; refine wpList_app _ rfl (.tmp 31) (.tmp 33) 22 22 rfl elO ((ho.alloc _).alloc _) rfl (Src.of_new (cs := #[.int .i64 cl, .int .i64 sq, .int .i64 kd, .string acct, .string peer, .int .i64 sum, .slice B (min L.length 10) d, .int .i64 per, .int .i64 hold, .string note]) (t := 35) (wr.heap.size + 1) (by have h := heap_alloc_new (wr.alloc (.cells #[.int .i64 cl, .int .i64 sq, .int .i64 kd, .string acct, .string peer, .int .i64 sum, .slice B (min L.length 10) d, .int .i64 per, .int .i64 hold, .string note] 35)) (.cells #[.int .i64 cl, .int .i64 sq, .int .i64 kd, .string acct, .string peer, .int .i64 sum, .slice B (min L.length 10) d, .int .i64 per, .int .i64 hold, .string note] 35); rw [World.size_alloc] at h; exact h) Tryz.underlying22 rfl (by simp [Value.oneCell'])) rfl hX.out.1 hX.out.2 ?_; intro v1 w3 hown3 hfr3 hnew3)
        go_roundw
        case rel =>
          refine ⟨k + 1, by omega, by omega, by go_num, ?_, ?_, ?_⟩
          · rw [E.out]
            have hq := hcs.out
            subst hq
            exact ⟨_, by rw [List.length_append]; exact hown3, Each.snocO HE.out rfl HO.out⟩
          · exact fr_no ((hfr.alloc _).alloc _) hnew hfr3
          · exact hnew.trans (Newer.of hnew3) (by have := hfr.size; simp; omega)
        case measure => simp [intOf]; omega
      · have hkni : ¬ (k : Int) < (n : Int) := by omega
        have hkn' : k = n := by omega
        subst hkn'
        obtain ⟨A1, c1, rfl, hl1, hm1⟩ := OwnO.form hown
        have HR := Lib.hid (OwnO.ret hown hfr hnew)
        have HFR := Lib.hid hfr
        clear hown hfr hnew
        go_wp2
        go_ret
        exact ⟨_, _, rfl, HR.out, hl1, hm1, HFR.out⟩
    · obtain rfl : k = l.length := by omega
      have he : fewO l l.length = fewO l n := by
        unfold fewO
        rw [List.take_length, List.take_of_length_le hkl]
      rw [he] at hown
      obtain ⟨A1, c1, rfl, hl1, hm1⟩ := OwnO.form hown
      have HR := Lib.hid (OwnO.ret hown hfr hnew)
      have HFR := Lib.hid hfr
      clear hown hfr hnew he
      by_cases hkn : l.length < n
      · have hkni : (l.length : Int) < (n : Int) := by omega
        go_wp2
        go_ret
        exact ⟨_, _, rfl, HR.out, hl1, hm1, HFR.out⟩
      · have hkni : ¬ (l.length : Int) < (n : Int) := by omega
        go_wp2
        go_ret
        exact ⟨_, _, rfl, HR.out, hl1, hm1, HFR.out⟩
/-- a row of replies is no block of a book -/
theorem own_farB {w : World} {q : Pl} {b : Bk} {v : Value} {n : Nat} {xs : List Value} (ho : Own w 29 4 v n xs) (h : BkS w q b) : ∀ i, q.all i → v.ownBlock ≠ some i := fun i hi hk => by
  obtain ⟨cur, hc⟩ := ho.blk i hk
  rcases hi with rfl | rfl | rfl | rfl | rfl
  · exact Blk.ne_ h.blk hc (by decide) rfl
  · exact Blk.ne_ h.ch.1 hc (by decide) rfl
  · exact h.ch.2.ne_ hc rfl
  · exact Blk.ne_ h.hd.1 hc (by decide) rfl
  · exact h.hd.2.ne_ hc rfl
def FoRel (w : World) (q : Pl) (l : List Od) (lv iv : Value) (wr : World) : Prop :=
  ∃ k : Nat, k ≤ l.length ∧ iv = .int .i64 k ∧ Own wr 29 4 lv k (rps (foldR bk0 (l.take k))) ∧ BkS wr q (foldB bk0 (l.take k)) ∧ Fr No w wr ∧ Newer w.heap.size none lv.ownBlock
theorem fold_take (b : Bk) (l : List Od) (k : Nat) (hk : k < l.length) : foldR b (l.take (k + 1)) = foldR b (l.take k) ++ [doR (foldB b (l.take k)) l[k]] ∧ foldB b (l.take (k + 1)) = doB (foldB b (l.take k)) l[k] := by
  rw [List.take_succ_eq_append_getElem hk]
  exact ⟨foldR_append _ _ _, foldB_append _ _ _⟩
/-- what Fold hands back: replies, and a book -/
def FoldRet (w : World) (l : List Od) (e : Ending) (w' : World) : Prop := ∃ A c q, e = .returned (.tuple #[.slice A l.length c, .pointer (some ⟨q.p, 0, none⟩)]) ∧ Rd w' (fun k => w.heap.size ≤ k) 4 A l.length (rps (foldR bk0 l)) ∧ BkS w' q (foldB bk0 l) ∧ Fr No w w' ∧ (∀ i, Pl.all q i → w.heap.size ≤ i) ∧ l.length ≤ c ∧ c ≤ maxLen
set_option maxRecDepth 100000 in
set_option maxHeartbeats 4000000 in
theorem fold_any (w0 w : World) (F : Nat → Prop) (A : Option Addr) (c : Nat) (l : List Od) (hl : OdsS w0 w F A l) (hb0 : Below w0.heap.size w0 w) (hlc : l.length ≤ 1000) :
    Calls Tryz.prog 17 #[.slice A l.length c] w (FoldRet w l) := by
  have HL : Hid (OdsS w0 w (Lt w.heap.size) A l) := by
    obtain ⟨cells, hr, hE⟩ := hl
    exact ⟨cells, rd_lt hr (by omega), hE⟩
  have HB0 := Lib.hid hb0
  have HNEW := Lib.hid (newB_any w)
  have hlm : l.length ≤ 1000 := hlc
  clear hl hb0 hlc
  go_enter Tryz.func17, Tryz.ntmps17
  go_wp2_with fail
  (with_reducible refine HNEW.out.mono ?_)
  rintro e w1 ⟨q, rfl, hb1, hf1, hq1⟩
  have HF1 := Lib.hid hf1
  have HQ := Lib.hid hq1
  have HB1 := Lib.hid hb1
  clear hf1 hq1 hb1 HNEW
  go_wp2
  go_loopw [5, 11] (fun lv iv wr => FoRel w q l lv iv wr) (fun _ iv _ => l.length - (intOf iv).toNat)
  case atStart => exact ⟨0, Nat.zero_le _, rfl, Own.nil _ _ _, HB1.out, HF1.out, .inl rfl⟩
  case round =>
    obtain ⟨k, hk, rfl, hown, hbk, hfr, hnew⟩ := hrel
    by_cases hlt : k < l.length
    · obtain ⟨ad, v, rfl, _, hok, hg, hL, q0, q1, q2, q3, q4, q5, q6, q7, q8, q9⟩ := (HL.out.below hfr.belowNo (fun _ h => h)).at_ k hlt
      obtain ⟨B, d, rfl, hd1, hd2⟩ := hL.form
      obtain ⟨E1, E2⟩ := fold_take bk0 l k hlt
      have hW : ∀ W, Fr No wr W → Below w0.heap.size w0 W := fun W h => (HB0.out.trans (hfr.belowNo.mono HB0.out.size)).trans (h.belowNo.mono (by have := hfr.size; have := HB0.out.size; omega))
      have hFF : ∀ W, Fr No wr W → ∀ k, Lt w0.heap.size k → k < W.heap.size ∧ k ≠ q.m := fun W h k hk => by
        have h1 : k < w0.heap.size := hk
        have h2 := (hW W h).size
        have h3 := HQ.out q.m (.inr (.inr (.inl rfl)))
        have h4 := HB0.out.size
        exact ⟨by omega, by omega⟩
      have HDO : Hid (∀ W, Fr No wr W → Calls Tryz.prog 12 #[.pointer (some ⟨q.p, 0, none⟩), l[k].val (.slice B l[k].legs.length d)] W (DidB q (doR (foldB bk0 (l.take k)) l[k]) (doB (foldB bk0 (l.take k)) l[k]) W)) := fun W h =>
        do_any _ q _ l[k] _ W (hbk.no h) hok (hL.below (hW W h)) (hFF W h)
      rw [← E2] at HDO
      generalize doR (foldB bk0 (l.take k)) l[k] = R at *
      obtain ⟨re, rh, rs, rn⟩ := R
      have HE1 : Hid (rps (foldR bk0 (l.take (k + 1))) = rps (foldR bk0 (l.take k)) ++ [.int .i64 re, .int .i64 rh, .int .i64 rs, .int .i64 rn]) := by
        show _ = _
        rw [E1, rps_append, rps_one]
        rfl
      have HDX : Hid (∀ W, Fr No wr W → Calls Tryz.prog 12 #[.pointer (some ⟨q.p, 0, none⟩), .agg #[.int .i64 l[k].cl, .int .i64 l[k].sq, .int .i64 l[k].kd, .string l[k].acct, .string l[k].peer, .int .i64 l[k].sum, .slice B l[k].legs.length d, .int .i64 l[k].per, .int .i64 l[k].hold, .string l[k].note]] W fun e w' => e = .returned (.agg #[.int .i64 re, .int .i64 rh, .int .i64 rs, .int .i64 rn]) ∧ BkS w' q (foldB bk0 (l.take (k + 1))) ∧ Fr q.wr W w') := fun W h => HDO.out W h
      have hX : Hid (k + 1 ≤ maxLen ∧ (k + 1) * 32 ≤ 140737488355328) := by
        refine ⟨?_, ?_⟩ <;> (try simp only [maxLen]) <;> omega
      have HBK := Lib.hid hbk
      have HFR := Lib.hid hfr
      have HOW := Lib.hid hown
      clear HDO E1 E2 hW hFF hok hg hL hbk hfr hown
      generalize hRS : foldR bk0 (l.take (k + 1)) = RS' at *
      have HRS := Lib.hid hRS
      clear hRS
      generalize foldR bk0 (l.take k) = RS at *
      generalize hbb : foldB bk0 (l.take (k + 1)) = bb' at *
      have HBB := Lib.hid hbb
      clear hbb
      generalize foldB bk0 (l.take k) = bb at *
      generalize l[k].legs = L at *
      generalize l[k].cl = cl at *
      generalize l[k].sq = sq at *
      generalize l[k].kd = kd at *
      generalize l[k].acct = acct at *
      generalize l[k].peer = peer at *
      generalize l[k].sum = sum at *
      generalize l[k].per = per at *
      generalize l[k].hold = hold at *
      generalize l[k].note = note at *
      go_wp2_with fail
      (with_reducible refine (HDX.out _ ((Fr.refl _ wr).alloc _)).mono ?_)
      rintro e w5 ⟨rfl, hb5, hg5⟩
      have hfar := own_farB HOW.out HBK.out
      have how5 := (HOW.out.alloc (.cells #[.int .i64 cl, .int .i64 sq, .int .i64 kd, .string acct, .string peer, .int .i64 sum, .slice B L.length d, .int .i64 per, .int .i64 hold, .string note] 35)).fr hg5 (fun i hi h => hfar i (Pl.wr_all h) hi)
      have HFAR := Lib.hid (own_farB how5 hb5)
      have HB5 := Lib.hid hb5
      have HW5 := Lib.hid how5
      have HF5 : Hid (Fr No w w5) := (HFR.out.alloc (.cells #[.int .i64 cl, .int .i64 sq, .int .i64 kd, .string acct, .string peer, .int .i64 sum, .slice B L.length d, .int .i64 per, .int .i64 hold, .string note] 35)).trans' hg5 (fun i hi hlt => absurd (HQ.out i (Pl.wr_all hi)) (by omega))
      clear hfar how5 hb5 hg5 q0 q1 q2 q3 q4 q5 q6 q7 q8 q9
      go_wp2_with (at_builtin; refine wpList_app _ rfl (.tmp 15) (.tmp 19) 47 47 rfl elR (HW5.out.alloc _) rfl (Src.of_new w5.heap.size (heap_alloc_new w5 _) Tryz.underlying47 rfl (by simp [Value.oneCell'])) rfl hX.out.1 hX.out.2 ?_; intro v1 w3 hown3 hfr3 hnew3)
      go_roundw
      case rel =>
        refine ⟨k + 1, by omega, by go_num, ?_, ?_, ?_, ?_⟩
        · rw [HRS.out, HE1.out]
          exact hown3
        · rw [HBB.out]
          exact (HB5.out.no ((Fr.refl _ _).alloc _)).fr hfr3 (fun i hi h => HFAR.out i hi h)
        · exact fr_no (HF5.out.alloc _) hnew hfr3
        · exact hnew.trans (Newer.of hnew3) (by have := HF5.out.size; simp; omega)
      case measure => simp [intOf]; omega
    · obtain rfl : k = l.length := by omega
      rw [List.take_length] at hown hbk
      obtain ⟨A1, c1, rfl, hl1, hm1⟩ := hown.form
      have HR := Lib.hid (hown.rd.more (G := fun k => w.heap.size ≤ k) fun k hk => newer_none hnew k hk)
      have HBK := Lib.hid hbk
      have HFR := Lib.hid hfr
      clear hown hbk hfr hnew
      go_wp2
      go_ret2
      exact ⟨A1, c1, q, rfl, HR.out, HBK.out, HFR.out, HQ.out, hl1, hm1⟩
end Go.Proofs.YtgklifbfbjdobaaGreat

namespace Go.Proofs.YtgklifbfbjdobaaGreat
open Go.RowKit Go.My Go.Maps
set_option linter.unusedSimpArgs false
set_option linter.unusedVariables false
attribute [local go_sem ↓] Go.wp_at_zero Go.wp_at_succ

def askV (seq kd : Int) (acct : ByteArray) (sum : Int) : Value := .agg #[.int .i64 0, .int .i64 seq, .int .i64 kd, .string acct, .string ⟨#[]⟩, .int .i64 sum, .slice none 0 0, .int .i64 0, .int .i64 0, .string ⟨#[]⟩]
theorem askV_val (seq kd : Int) (acct : ByteArray) (sum : Int) : askV seq kd acct sum = (askOd seq kd acct sum).val (.slice none 0 0) := rfl
theorem askOd_ok (seq kd : Int) (acct : ByteArray) (sum : Int) (h1 : In64 seq) (h2 : In64 kd) (h3 : acct.size ≤ maxLen) (h4 : In64 sum) : (askOd seq kd acct sum).ok := by
  unfold askOd Od.ok In64 at *
  refine ⟨by simp, h1, h2, h3, ?_, h4, by simp, by simp, ?_⟩ <;> (show (⟨#[]⟩ : ByteArray).size ≤ maxLen; decide)
theorem ask9_any (seq kd : Int) (acct : ByteArray) (sum : Int) (w : World) : Calls Tryz.prog 18 #[.int .i64 seq, .int .i64 kd, .string acct, .int .i64 sum] w fun e w' => e = .returned (.agg #[.int .i64 0, .int .i64 seq, .int .i64 kd, .string acct, .string ⟨#[]⟩, .int .i64 sum, .slice none 0 0, .int .i64 0, .int .i64 0, .string ⟨#[]⟩]) ∧ Fr No w w' := by
  have hb := Blk.new w 35 #[.int .i64 0, .int .i64 seq, .int .i64 kd, .string acct, .string ⟨#[]⟩, .int .i64 sum, .slice none 0 0, .int .i64 0, .int .i64 0, .string ⟨#[]⟩]
  have d0 := hb.cell 0
  have d1 := hb.cell 1
  have d2 := hb.cell 2
  have d3 := hb.cell 3
  have d4 := hb.cell 4
  have d5 := hb.cell 5
  have d6 := hb.cell 6
  have d7 := hb.cell 7
  have d8 := hb.cell 8
  have d9 := hb.cell 9
  simp only [List.getElem?_toArray, List.getElem?_cons_zero, List.getElem?_cons_succ] at d0 d1 d2 d3 d4 d5 d6 d7 d8 d9
  clear hb
  go_enter Tryz.func18, Tryz.ntmps18
  go_wp2
  refine bodyPost_ret (v := .agg #[.int .i64 0, .int .i64 seq, .int .i64 kd, .string acct, .string ⟨#[]⟩, .int .i64 sum, .slice none 0 0, .int .i64 0, .int .i64 0, .string ⟨#[]⟩]) (by simp [results, Tryz.results18, go_sem, d0, d1, d2, d3, d4, d5, d6, d7, d8, d9]) rfl ?_
  exact ⟨rfl, (Fr.refl _ _).alloc _⟩
def liveL : List Od := [askOd 1 1 ⟨#[97]⟩ 3, askOd 2 3 ⟨#[97]⟩ 5, askOd 3 3 ⟨#[97]⟩ 3, askOd 4 7 ⟨#[97]⟩ 0]
theorem liveR : foldR bk0 liveL = [⟨0, 0, 0, 0⟩, ⟨9, 0, 0, 0⟩, ⟨0, 0, 3, 3⟩, ⟨0, 0, 3, 0⟩] := by decide +kernel
theorem liveS : (foldB bk0 liveL).S.length = 1 ∧ (foldB bk0 liveL).H.length = 1 := by decide +kernel
def liveC : List Value := (askOd 1 1 ⟨#[97]⟩ 3).cs (.slice none 0 0) ++ (askOd 2 3 ⟨#[97]⟩ 5).cs (.slice none 0 0) ++ (askOd 3 3 ⟨#[97]⟩ 3).cs (.slice none 0 0) ++ (askOd 4 7 ⟨#[97]⟩ 0).cs (.slice none 0 0)
theorem liveE (w0 : World) : Each (OdR w0) 10 liveC liveL := by
  have ho : ∀ s k x, In64 s → In64 k → In64 x → OdR w0 ((askOd s k ⟨#[97]⟩ x).cs (.slice none 0 0)) (askOd s k ⟨#[97]⟩ x) := fun s k x h1 h2 h3 => ⟨_, rfl, askOd_ok _ _ _ _ h1 h2 (by decide) h3, fun g hg => absurd hg (by simp [askOd]), LgS_nil _ _⟩
  have h1 := Each.snocO (Each.nilO w0) (cs := (askOd 1 1 ⟨#[97]⟩ 3).cs (.slice none 0 0)) rfl (ho 1 1 3 (by unfold In64; omega) (by unfold In64; omega) (by unfold In64; omega))
  have h2 := Each.snocO h1 (cs := (askOd 2 3 ⟨#[97]⟩ 5).cs (.slice none 0 0)) rfl (ho 2 3 5 (by unfold In64; omega) (by unfold In64; omega) (by unfold In64; omega))
  have h3 := Each.snocO h2 (cs := (askOd 3 3 ⟨#[97]⟩ 3).cs (.slice none 0 0)) rfl (ho 3 3 3 (by unfold In64; omega) (by unfold In64; omega) (by unfold In64; omega))
  exact Each.snocO h3 (cs := (askOd 4 7 ⟨#[97]⟩ 0).cs (.slice none 0 0)) rfl (ho 4 7 0 (by unfold In64; omega) (by unfold In64; omega) (by unfold In64; omega))
theorem sameBk_refl (a : Bk) : sameBk a a = true := by unfold sameBk; simp
theorem add_pos (a : Addr) (j : Nat) (h : 0 < j) : a.add j = ⟨a.block, a.off + j, none⟩ := by
  unfold Addr.add
  rw [if_neg (by omega)]
theorem ods_blk {w0 w : World} {g : Nat} {t : TypeId} {cs : List Value} {l : List Od} (h : Blk w g t cs.toArray) (hE : Each (OdR w0) 10 cs l) : OdsS w0 w (fun k => k = g) (some ⟨g, 0, none⟩) l := by
  refine ⟨cs, ⟨hE.1, fun _ => ⟨_, rfl, rfl, fun j u hu => ?_⟩⟩, hE⟩
  rw [add_zero, h.cell j]
  simpa using hu
set_option maxRecDepth 100000 in
set_option maxHeartbeats 4000000 in
theorem lives9 (w : World) : Calls Tryz.prog 8 #[] w (RetTrue w) := by
  have HA := Lib.hid (fun s k a x W => ask9_any s k a x W)
  have HFO : Hid (∀ W g t, Fr No w W → Blk W g t liveC.toArray → Calls Tryz.prog 17 #[.slice (some ⟨g, 0, none⟩) 4 4] W fun e w' => ∃ A c q, e = .returned (.tuple #[.slice A 4 c, .pointer (some ⟨q.p, 0, none⟩)]) ∧ Rd w' (fun k => W.heap.size ≤ k) 4 A 4 (rps [⟨0, 0, 0, 0⟩, ⟨9, 0, 0, 0⟩, ⟨0, 0, 3, 3⟩, ⟨0, 0, 3, 0⟩]) ∧ BkS w' q (foldB bk0 liveL) ∧ Fr No W w' ∧ (∀ i, Pl.all q i → W.heap.size ≤ i) ∧ 4 ≤ c ∧ c ≤ maxLen) := fun W g t hW hb => by
    have h := fold_any w W _ _ 4 liveL (ods_blk hb (liveE w)) hW.belowNo (by decide)
    unfold FoldRet at h
    rw [liveR] at h
    exact h
  go_enter Tryz.func8, Tryz.ntmps8
  go_wp2_with fail
  (with_reducible refine (HA.out _ _ _ _ _).mono ?_)
  rintro e w1 ⟨rfl, hf1⟩
  go_wp2_with fail
  (with_reducible refine (HA.out _ _ _ _ _).mono ?_)
  rintro e w2 ⟨rfl, hf2⟩
  go_wp2_with fail
  (with_reducible refine (HA.out _ _ _ _ _).mono ?_)
  rintro e w3 ⟨rfl, hf3⟩
  go_wp2_with fail
  (with_reducible refine (HA.out _ _ _ _ _).mono ?_)
  rintro e w4 ⟨rfl, hf4⟩
  have HF4 := Lib.hid (((hf1.trans hf2).trans hf3).trans hf4)
  clear hf1 hf2 hf3 hf4
  go_wp2_with fail
  refine (HFO.out _ w4.heap.size 35 (HF4.out.alloc _) (Blk.new w4 _ _)).mono ?_
  rintro e w5 ⟨A, c, q, rfl, hr5, hb5, hf5, hq5, -, -⟩
  have HF5 : Hid (Fr No w w5) := (HF4.out.alloc _).trans hf5
  have HB5 := Lib.hid hb5
  obtain ⟨ad, rfl, _, hc⟩ := hr5.2 (by omega)
  have c0 := hc 0 _ rfl
  rw [show ad.add 0 = ad from rfl] at c0
  have c4 := hc 4 _ rfl
  rw [add_pos ad 4 (by omega)] at c4
  have c11 := hc 11 _ rfl
  rw [add_pos ad 11 (by omega)] at c11
  have c12 := hc 12 _ rfl
  rw [add_pos ad 12 (by omega)] at c12
  have c13 := hc 13 _ rfl
  rw [add_pos ad 13 (by omega)] at c13
  have c14 := hc 14 _ rfl
  rw [add_pos ad 14 (by omega)] at c14
  have c15 := hc 15 _ rfl
  rw [add_pos ad 15 (by omega)] at c15
  have LEN := Lib.hid liveS
  clear hr5 hb5 hf5 hq5 hc HFO HA
  go_wp2_with fail
  (with_reducible refine (baccts_any q _ _ HB5.out).mono ?_)
  rintro e w6 ⟨v6, rfl, ho6, hf6, -⟩
  rw [LEN.out.1] at ho6
  obtain ⟨A6, c6, rfl, -, -⟩ := ho6.form
  have HF6 : Hid (Fr No w5 w6) := fr_at_none hf6
  clear ho6 hf6
  go_wp2_with fail
  (with_reducible refine (bholds_any q _ _ (HB5.out.no HF6.out)).mono ?_)
  rintro e w7 ⟨v7, rfl, ho7, hf7, -⟩
  rw [LEN.out.2] at ho7
  obtain ⟨A7, c7, rfl, -, -⟩ := ho7.form
  have HF7 : Hid (Fr No w5 w7) := HF6.out.trans (fr_at_none hf7)
  clear ho7 hf7
  go_wp2_with fail
  (with_reducible refine (bcopy_any q _ _ (HB5.out.no HF7.out)).mono ?_)
  rintro e w8 ⟨q8, rfl, hb8, hf8, -⟩
  have HF8 : Hid (Fr No w5 w8) := HF7.out.trans hf8
  have HSM := Lib.hid (bsame_any q q8 _ _ w8 (HB5.out.no HF8.out) hb8)
  rw [sameBk_refl] at HSM
  clear hb8 hf8
  go_wp2_with fail
  (with_reducible refine HSM.out.mono ?_)
  rintro e w9 ⟨rfl, hf9⟩
  have HF9 : Hid (Fr No w5 w9) := HF8.out.trans hf9
  clear hf9 HSM
  go_wp2
  go_ret
  exact ⟨rfl, (HF5.out.trans HF9.out).belowNo⟩
end Go.Proofs.YtgklifbfbjdobaaGreat
