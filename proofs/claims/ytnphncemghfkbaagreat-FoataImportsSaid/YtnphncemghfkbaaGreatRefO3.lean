/- The document's own Right of orders. -/
import Derived.Test.YtnphncemghfkbaaGreatQ10
import Derived.Test.YtnphncemghfkbaaGreatRefO2
import Derived.Test.YtnphncemghfkbaaGreatRefName
import Derived.Deep.RegionHeld3
import Derived.Deep.DrawnRows
namespace Go.Proofs.YtnphncemghfkbaaGreat
open Go.RowKit Go.My Go.Maps
set_option linter.unusedSimpArgs false
set_option linter.unusedVariables false
attribute [local go_sem ↓] Go.wp_at_zero Go.wp_at_succ

theorem right_nodupO {L : List Lg} (h : rightB L = true) : (L.map Lg.nm).Nodup := by
  unfold rightB at h
  simp only [Bool.and_eq_true, decide_eq_true_eq] at h
  exact h.2
theorem nodup_snocO {L : List Lg} {i : Nat} (hi : i < L.length) (h : ((L.take i).map Lg.nm).Nodup) (hn : ∀ x ∈ L.take i, x.nm ≠ L[i].nm) : ((L.take (i + 1)).map Lg.nm).Nodup := by
  rw [List.take_succ_eq_append_getElem hi, List.map_append, List.nodup_append]
  refine ⟨h, by simp, fun a ha b hb => ?_⟩
  obtain ⟨x, hx, rfl⟩ := List.mem_map.1 ha
  simp only [List.map_cons, List.map_nil, List.mem_singleton] at hb
  rw [hb]
  exact hn x hx
theorem not_nodupO {L : List Lg} {i k : Nat} (hi : i < L.length) (hk : k < i) (h : L[k].nm = L[i].nm) : rightB L = false := by
  cases hb : rightB L with
  | false => rfl
  | true =>
    have h1 := right_nodupO hb
    have h2 := List.pairwise_iff_getElem.1 h1 k i (by simp; omega) (by simpa using hi) hk
    simp [h] at h2
theorem right_endO {L : List Lg} (h1 : L.all okLg = true) (h2 : (L.map Lg.nm).Nodup) : rightB L = (decide (2 ≤ L.length) && decide (L.length ≤ 6)) := by
  unfold rightB
  have e : L.all (fun g => nameB g.nm && decide (g.sum ≠ 0)) = true := h1
  rw [e, decide_eq_true h2]
  simp


theorem bare_right {o : Od} (h : rightO o = true) : o = bareO o := by
  obtain ⟨cl, sq, kd, acct, peer, sum, legs, per, hold, note⟩ := o
  unfold rightO acctB peerB sumB legsB perB holdB noteB Od.an Od.pn at h
  simp only [Bool.and_eq_true, decide_eq_true_eq] at h
  obtain ⟨h1, h2, _, ha, hp, hs, hl, hpe, hh, hn⟩ := h
  have em : ∀ b : ByteArray, b.data.toList.isEmpty = true → b = ⟨#[]⟩ := fun b hb => bytes_ext (by rw [List.isEmpty_iff.1 hb])
  have hc : kd = 1 ∨ kd = 2 ∨ kd = 3 ∨ kd = 4 ∨ kd = 5 ∨ kd = 6 ∨ kd = 7 := by omega
  unfold bareO
  simp only [Od.mk.injEq, true_and]
  rcases hc with rfl | rfl | rfl | rfl | rfl | rfl | rfl <;> simp at ha hp hs hl hpe hh hn ⊢ <;>
    (repeat' apply And.intro) <;> first | trivial | assumption | (apply bytes_ext; simp [*]; done) | (simp_all; done) | omega
def RrRelO (w : World) (L : List Lg) (iv : Value) (wr : World) : Prop := ∃ i j : Nat, i ≤ L.length ∧ iv = .int .i64 i ∧ (L.take i).all okLg = true ∧ ((L.take i).map Lg.nm).Nodup ∧ wr = w.drewN j
def RkRelO (w : World) (L : List Lg) (i : Nat) (nm : List UInt8) (kv : Value) (wr : World) : Prop := ∃ k j : Nat, k ≤ i ∧ kv = .int .i64 k ∧ (∀ x ∈ L.take k, x.nm ≠ nm) ∧ wr = w.drewN j

set_option maxRecDepth 100000 in
set_option maxHeartbeats 16000000 in
theorem refrightO_any (F : Nat → Prop) (o : Od) (v : Value) (w : World) (ho : o.ok) (hv : LgS w F v o.legs) (h100 : o.legs.length ≤ 100) :
    Calls Tryz.prog 66 #[o.val v] w fun e w' => e = .returned (.bool (rightO o)) ∧ Fr No w w' := by
  obtain ⟨cl, sq, kd, acct, peer, sum, legs, per, hold, note⟩ := o
  have hv0 := hv
  obtain ⟨A, c, rfl, hlc, hcm⟩ := hv0.form
  clear hv0
  obtain ⟨-, -, -, o1, o2, -, -, -, o3⟩ := ho
  simp only at hlc hv h100 o1 o2 o3
  have hp := Blk.new w 47 #[.int .i64 cl, .int .i64 sq, .int .i64 kd, .string acct, .string peer, .int .i64 sum, .slice A legs.length c, .int .i64 per, .int .i64 hold, .string note]
  have hf0 : Fr No w (w.alloc (.cells #[.int .i64 cl, .int .i64 sq, .int .i64 kd, .string acct, .string peer, .int .i64 sum, .slice A legs.length c, .int .i64 per, .int .i64 hold, .string note] 47)) := (Fr.refl _ _).alloc _
  have hLV := hv.no hf0
  have HBR := Lib.hid (fun W (h : 1 ≤ kd ∧ kd ≤ 7) => bare_any ⟨cl, sq, kd, acct, peer, sum, legs, per, hold, note⟩ A legs.length c W h)
  have HLB : Hid (∀ W, LgS W F (.slice A legs.length c) legs → LgS W (fun _ => True) (bareV kd (.slice A legs.length c)) (bareO ⟨cl, sq, kd, acct, peer, sum, legs, per, hold, note⟩).legs) := fun W h => by
    unfold bareV bareO
    simp only
    split
    · obtain ⟨A', c', cells, e, hr, r⟩ := h
      exact ⟨A', c', cells, e, hr.more (fun _ _ => True.intro), r⟩
    · exact LgS_nil _ _
  have HSM : Hid (∀ W, LgS W F (.slice A legs.length c) legs → Calls Tryz.prog 44 #[Od.val ⟨cl, sq, kd, acct, peer, sum, legs, per, hold, note⟩ (.slice A legs.length c), (bareO ⟨cl, sq, kd, acct, peer, sum, legs, per, hold, note⟩).val (bareV kd (.slice A legs.length c))] W fun e w' => e = .returned (.bool (eqO ⟨cl, sq, kd, acct, peer, sum, legs, per, hold, note⟩ (bareO ⟨cl, sq, kd, acct, peer, sum, legs, per, hold, note⟩))) ∧ Fr No W w') := fun W h => refsameO_any _ _ ⟨cl, sq, kd, acct, peer, sum, legs, per, hold, note⟩ (bareO ⟨cl, sq, kd, acct, peer, sum, legs, per, hold, note⟩) _ _ W h (HLB.out W h)
  unfold Od.val at HBR HSM ⊢
  unfold Od.cs at HBR HSM ⊢
  simp only at HBR HSM ⊢
  generalize hbv : Value.agg [Value.int .i64 (bareO ⟨cl, sq, kd, acct, peer, sum, legs, per, hold, note⟩).cl, .int .i64 (bareO ⟨cl, sq, kd, acct, peer, sum, legs, per, hold, note⟩).sq, .int .i64 (bareO ⟨cl, sq, kd, acct, peer, sum, legs, per, hold, note⟩).kd, .string (bareO ⟨cl, sq, kd, acct, peer, sum, legs, per, hold, note⟩).acct, .string (bareO ⟨cl, sq, kd, acct, peer, sum, legs, per, hold, note⟩).peer, .int .i64 (bareO ⟨cl, sq, kd, acct, peer, sum, legs, per, hold, note⟩).sum, bareV kd (.slice A legs.length c), .int .i64 (bareO ⟨cl, sq, kd, acct, peer, sum, legs, per, hold, note⟩).per, .int .i64 (bareO ⟨cl, sq, kd, acct, peer, sum, legs, per, hold, note⟩).hold, .string (bareO ⟨cl, sq, kd, acct, peer, sum, legs, per, hold, note⟩).note].toArray = bv at *
  generalize hR : rightO ⟨cl, sq, kd, acct, peer, sum, legs, per, hold, note⟩ = res at *
  go_enter Tryz.func66, Tryz.ntmps66
  go_upto_region 1 with (fail)
  generalize w.alloc (.cells #[.int .i64 cl, .int .i64 sq, .int .i64 kd, .string acct, .string peer, .int .i64 sum, .slice A legs.length c, .int .i64 per, .int .i64 hold, .string note] 47) = w1 at *
  have x0 := hp.cell 0
  have x1 := hp.cell 1
  have x2 := hp.cell 2
  have x3 := hp.cell 3
  have x4 := hp.cell 4
  have x5 := hp.cell 5
  have x6 := hp.cell 6
  have x7 := hp.cell 7
  have x8 := hp.cell 8
  have x9 := hp.cell 9
  simp only [List.getElem?_toArray, List.getElem?_cons_zero, List.getElem?_cons_succ] at x0 x1 x2 x3 x4 x5 x6 x7 x8 x9
  have HF := Lib.hid hf0
  have HP := Lib.hid hp
  have HLV := Lib.hid hLV
  clear hf0 hp hv hLV hbv
  go_upto_region 2 with (fail)
  by_cases e1 : cl < 0
  · obtain rfl : res = false := by
      rw [← hR]
      unfold rightO acctB peerB sumB legsB perB holdB noteB Od.an Od.pn
      unfold idB
      simp [show ¬ (0 ≤ cl) by omega]
    clear hR
    go_quiet (fail)
    go_wp2
    go_ret
    exact ⟨rfl, HF.out.drewN _⟩
  by_cases e2 : 9 < cl
  · obtain rfl : res = false := by
      rw [← hR]
      unfold rightO acctB peerB sumB legsB perB holdB noteB Od.an Od.pn
      unfold idB
      simp [show ¬ (cl ≤ 9) by omega]
    clear hR
    go_quiet (fail)
    go_wp2
    go_ret
    exact ⟨rfl, HF.out.drewN _⟩
  by_cases e3 : sq < 1
  · obtain rfl : res = false := by
      rw [← hR]
      unfold rightO acctB peerB sumB legsB perB holdB noteB Od.an Od.pn
      unfold idB
      simp [show ¬ (1 ≤ sq) by omega]
    clear hR
    go_quiet (fail)
    go_wp2
    go_ret
    exact ⟨rfl, HF.out.drewN _⟩
  by_cases e4 : 999 < sq
  · obtain rfl : res = false := by
      rw [← hR]
      unfold rightO acctB peerB sumB legsB perB holdB noteB Od.an Od.pn
      unfold idB
      simp [show ¬ (sq ≤ 999) by omega]
    clear hR
    go_quiet (fail)
    go_wp2
    go_ret
    exact ⟨rfl, HF.out.drewN _⟩
  by_cases e5 : kd < 1
  · obtain rfl : res = false := by
      rw [← hR]
      unfold rightO acctB peerB sumB legsB perB holdB noteB Od.an Od.pn
      unfold idB
      simp [show ¬ (1 ≤ kd) by omega]
    clear hR
    go_quiet (fail)
    go_wp2
    go_ret
    exact ⟨rfl, HF.out.drewN _⟩
  by_cases e6 : 7 < kd
  · obtain rfl : res = false := by
      rw [← hR]
      unfold rightO acctB peerB sumB legsB perB holdB noteB Od.an Od.pn
      unfold idB
      simp [show ¬ (kd ≤ 7) by omega]
    clear hR
    go_quiet (fail)
    go_wp2
    go_ret
    exact ⟨rfl, HF.out.drewN _⟩
  have HID : Hid (idB cl sq = true) := by
    show _ = _
    unfold idB
    simp [show 0 ≤ cl by omega, show cl ≤ 9 by omega, show 1 ≤ sq by omega, show sq ≤ 999 by omega]
  have hc : kd = 1 ∨ kd = 2 ∨ kd = 3 ∨ kd = 4 ∨ kd = 5 ∨ kd = 6 ∨ kd = 7 := by omega
  have HBR2 := Lib.hid (fun W => HBR.out W ⟨by omega, by omega⟩)
  have hd : Fr No w1 w1.drew := (Fr.refl No w1).drew
  have HX : Hid (∀ U, Fr No w1 U → (fun Z => Fr No w1 Z ∧ Z.cell? ⟨w.heap.size, 0, none⟩ = some (.int .i64 cl) ∧ Z.cell? ⟨w.heap.size, 1, none⟩ = some (.int .i64 sq) ∧ Z.cell? ⟨w.heap.size, 2, none⟩ = some (.int .i64 kd) ∧ Z.cell? ⟨w.heap.size, 3, none⟩ = some (.string acct) ∧ Z.cell? ⟨w.heap.size, 4, none⟩ = some (.string peer) ∧ Z.cell? ⟨w.heap.size, 5, none⟩ = some (.int .i64 sum) ∧ Z.cell? ⟨w.heap.size, 6, none⟩ = some (.slice A legs.length c) ∧ Z.cell? ⟨w.heap.size, 7, none⟩ = some (.int .i64 per) ∧ Z.cell? ⟨w.heap.size, 8, none⟩ = some (.int .i64 hold) ∧ Z.cell? ⟨w.heap.size, 9, none⟩ = some (.string note)) U) := fun U hU => by
    have h := HP.out.fr hU (fun h => h)
    exact ⟨hU, h.cell 0, h.cell 1, h.cell 2, h.cell 3, h.cell 4, h.cell 5, h.cell 6, h.cell 7, h.cell 8, h.cell 9⟩
  have HLU : Hid (∀ U, Fr No w1 U → LgS U F (.slice A legs.length c) legs) := fun U hU => HLV.out.no hU
  clear HBR HLB
  cases hq : eqO ⟨cl, sq, kd, acct, peer, sum, legs, per, hold, note⟩ (bareO ⟨cl, sq, kd, acct, peer, sum, legs, per, hold, note⟩) with
  | false =>
    rw [hq] at HSM
    obtain rfl : res = false := by
      rw [← hR]
      cases hr : rightO ⟨cl, sq, kd, acct, peer, sum, legs, per, hold, note⟩ with
      | false => rfl
      | true =>
        have h2 := (eqO_iff _ _).2 (bare_right hr)
        rw [hq] at h2
        cases h2
    clear hR hq hc
    go_region_held3 (fun Z => Fr No w1 Z ∧ Z.cell? ⟨w.heap.size, 0, none⟩ = some (.int .i64 cl) ∧ Z.cell? ⟨w.heap.size, 1, none⟩ = some (.int .i64 sq) ∧ Z.cell? ⟨w.heap.size, 2, none⟩ = some (.int .i64 kd) ∧ Z.cell? ⟨w.heap.size, 3, none⟩ = some (.string acct) ∧ Z.cell? ⟨w.heap.size, 4, none⟩ = some (.string peer) ∧ Z.cell? ⟨w.heap.size, 5, none⟩ = some (.int .i64 sum) ∧ Z.cell? ⟨w.heap.size, 6, none⟩ = some (.slice A legs.length c) ∧ Z.cell? ⟨w.heap.size, 7, none⟩ = some (.int .i64 per) ∧ Z.cell? ⟨w.heap.size, 8, none⟩ = some (.int .i64 hold) ∧ Z.cell? ⟨w.heap.size, 9, none⟩ = some (.string note))
      (first | (refine HX.out _ ?_; with_reducible assumption))
      (first
        | (go_at_call 92; with_reducible refine (HBR2.out _).mono ?_; rintro e wA ⟨rfl, hf1⟩; have hg1 := Fr.trans hd hf1; have hl1 := HLU.out _ hg1)
        | (go_at_call 44; with_reducible refine (HSM.out _ hl1).mono ?_; rintro e wB ⟨rfl, hf2⟩; have hg2 := Fr.trans hg1 hf2))
    go_wp2
    go_ret
    exact ⟨rfl, HF.out.trans hg2⟩
  | true =>
    rw [hq] at HSM
    have HEQ := Lib.hid ((eqO_iff _ _).1 hq)
    clear hq
    go_region_held3 (fun Z => Fr No w1 Z ∧ Z.cell? ⟨w.heap.size, 0, none⟩ = some (.int .i64 cl) ∧ Z.cell? ⟨w.heap.size, 1, none⟩ = some (.int .i64 sq) ∧ Z.cell? ⟨w.heap.size, 2, none⟩ = some (.int .i64 kd) ∧ Z.cell? ⟨w.heap.size, 3, none⟩ = some (.string acct) ∧ Z.cell? ⟨w.heap.size, 4, none⟩ = some (.string peer) ∧ Z.cell? ⟨w.heap.size, 5, none⟩ = some (.int .i64 sum) ∧ Z.cell? ⟨w.heap.size, 6, none⟩ = some (.slice A legs.length c) ∧ Z.cell? ⟨w.heap.size, 7, none⟩ = some (.int .i64 per) ∧ Z.cell? ⟨w.heap.size, 8, none⟩ = some (.int .i64 hold) ∧ Z.cell? ⟨w.heap.size, 9, none⟩ = some (.string note))
      (first | (refine HX.out _ ?_; with_reducible assumption))
      (first
        | (go_at_call 92; with_reducible refine (HBR2.out _).mono ?_; rintro e wA ⟨rfl, hf1⟩; have hg1 := Fr.trans hd hf1; have hl1 := HLU.out _ hg1)
        | (go_at_call 44; with_reducible refine (HSM.out _ hl1).mono ?_; rintro e wB ⟨rfl, hf2⟩; have hg2 := Fr.trans hg1 hf2))
    have HF2 := Lib.hid (HF.out.trans hg2)
    have hp2 := HP.out.fr hg2 (fun h => h)
    have HL2 := Lib.hid (HLU.out _ hg2)
    clear HX HLU HSM HBR2 hf1 hf2 hg1 hg2 hl1 hd HP HF HLV x0 x1 x2 x3 x4 x5 x6 x7 x8 x9
    rcases hc with rfl | rfl | rfl | rfl | rfl | rfl | rfl
    · obtain rfl : peer = ⟨#[]⟩ := (congrArg Od.peer HEQ.out).trans (by simp [bareO])
      obtain rfl : legs = [] := (congrArg Od.legs HEQ.out).trans (by simp [bareO])
      obtain rfl : per = 0 := (congrArg Od.per HEQ.out).trans (by simp [bareO])
      obtain rfl : hold = 0 := (congrArg Od.hold HEQ.out).trans (by simp [bareO])
      obtain rfl : note = ⟨#[]⟩ := (congrArg Od.note HEQ.out).trans (by simp [bareO])
      have x0 := hp2.cell 0
      have x1 := hp2.cell 1
      have x2 := hp2.cell 2
      have x3 := hp2.cell 3
      have x4 := hp2.cell 4
      have x5 := hp2.cell 5
      have x6 := hp2.cell 6
      have x7 := hp2.cell 7
      have x8 := hp2.cell 8
      have x9 := hp2.cell 9
      simp only [List.getElem?_toArray, List.getElem?_cons_zero, List.getElem?_cons_succ] at x0 x1 x2 x3 x4 x5 x6 x7 x8 x9
      clear HEQ hp2
      have HN := Lib.hid (fun W => refname_any acct W o1)
      cases hn : nameB acct.data.toList with
      | false =>
        rw [hn] at HN
        obtain rfl : res = false := by
          rw [← hR]
          unfold rightO acctB peerB sumB legsB perB holdB noteB Od.an Od.pn
          simp [HID.out, hn]
        clear hR
        go_wp2_with fail
        refine (HN.out _).mono ?_
        rintro e u3 ⟨rfl, rfl⟩
        go_wp2
        go_ret
        exact ⟨rfl, HF2.out⟩
      | true =>
        rw [hn] at HN
        by_cases q0 : sum < 0
        · obtain rfl : res = false := by
            rw [← hR]
            unfold rightO acctB peerB sumB legsB perB holdB noteB Od.an Od.pn
            simp [HID.out, hn, show ¬ (0 ≤ sum) by omega]
          clear hR
          go_wp2_with fail
          refine (HN.out _).mono ?_
          rintro e u3 ⟨rfl, rfl⟩
          go_wp2
          go_ret
          exact ⟨rfl, HF2.out⟩
        obtain rfl : res = true := by
          rw [← hR]
          unfold rightO acctB peerB sumB legsB perB holdB noteB Od.an Od.pn
          simp [HID.out, hn, show 0 ≤ sum by omega]
        clear hR
        go_wp2_with fail
        refine (HN.out _).mono ?_
        rintro e u3 ⟨rfl, rfl⟩
        go_wp2
        go_ret
        exact ⟨rfl, HF2.out⟩
    · obtain rfl : acct = ⟨#[]⟩ := (congrArg Od.acct HEQ.out).trans (by simp [bareO])
      obtain rfl : peer = ⟨#[]⟩ := (congrArg Od.peer HEQ.out).trans (by simp [bareO])
      obtain rfl : sum = 0 := (congrArg Od.sum HEQ.out).trans (by simp [bareO])
      obtain rfl : hold = 0 := (congrArg Od.hold HEQ.out).trans (by simp [bareO])
      have x0 := hp2.cell 0
      have x1 := hp2.cell 1
      have x2 := hp2.cell 2
      have x3 := hp2.cell 3
      have x4 := hp2.cell 4
      have x5 := hp2.cell 5
      have x6 := hp2.cell 6
      have x7 := hp2.cell 7
      have x8 := hp2.cell 8
      have x9 := hp2.cell 9
      simp only [List.getElem?_toArray, List.getElem?_cons_zero, List.getElem?_cons_succ] at x0 x1 x2 x3 x4 x5 x6 x7 x8 x9
      clear HEQ hp2
      by_cases q0 : per < 1
      · obtain rfl : res = false := by
          rw [← hR]
          unfold rightO acctB peerB sumB legsB perB holdB noteB Od.an Od.pn
          simp [HID.out, show ¬ (1 ≤ per) by omega]
        clear hR
        go_wp2
        go_ret
        exact ⟨rfl, HF2.out⟩
      by_cases q1 : 1000 < per
      · obtain rfl : res = false := by
          rw [← hR]
          unfold rightO acctB peerB sumB legsB perB holdB noteB Od.an Od.pn
          simp [HID.out, show 1 ≤ per by omega, show ¬ (per ≤ 1000) by omega]
        clear hR
        go_wp2
        go_ret
        exact ⟨rfl, HF2.out⟩
      have HRES : Hid (rightB legs = false → res = false) := fun h => by
        rw [← hR]
        unfold rightO acctB peerB sumB legsB perB holdB noteB Od.an Od.pn
        simp [h]
      have HREST : Hid (rightB legs = true → note.data.toList.length ≤ 20 → res = true) := fun h h2 => by
        have h2' : note.size ≤ 20 := by have e : note.size = note.data.toList.length := rfl; omega
        rw [← hR]
        unfold rightO acctB peerB sumB legsB perB holdB noteB Od.an Od.pn
        simp [HID.out, h, h2', show 1 ≤ per by omega, show per ≤ 1000 by omega] <;> simpa using h2
      have HRESN : Hid (¬ note.data.toList.length ≤ 20 → res = false) := fun h => by
        rw [← hR]
        unfold rightO acctB peerB sumB legsB perB holdB noteB Od.an Od.pn
        rw [decide_eq_false h]
        simp
      obtain ⟨A', c', cells, e0, hr, hE, _, _⟩ := HL2.out
      cases e0
      have HR := Lib.hid hr
      have HE := Lib.hid hE
      clear hr hE hR
      go_wp2_with fail
      go_loopw [5] (fun iv wr => RrRelO wB legs iv wr) (fun iv _ => legs.length - (intOf iv).toNat)
      case atStart => exact ⟨0, 0, Nat.zero_le _, rfl, rfl, List.nodup_nil, rfl⟩
      case round =>
        obtain ⟨i, j0, hi, rfl, hall, hnd, rfl⟩ := hrel
        have HALL := Lib.hid hall
        have HND := Lib.hid hnd
        clear hall hnd
        by_cases hil : i < legs.length
        · obtain ⟨ad, rfl, _, hok, q0, q1⟩ := lg_at HR.out HE.out i hil hil
          have HBAD : Hid (okLg legs[i] = false → rightB legs = false) := rightB_bad hil
          have HNX : Hid (okLg legs[i] = true → (legs.take (i + 1)).all okLg = true) := fun h => by
            rw [List.take_succ_eq_append_getElem hil, List.all_append, HALL.out]
            simp [h]
          have HSN : Hid ((∀ x ∈ legs.take i, x.nm ≠ legs[i].nm) → ((legs.take (i + 1)).map Lg.nm).Nodup) := nodup_snocO hil HND.out
          have HNN : Hid (∀ k (hk : k < i), legs[k].nm = legs[i].nm → rightB legs = false) := fun k hk h => not_nodupO hil hk h
          generalize hg : legs[i] = g at *
          obtain ⟨nm, sm⟩ := g
          unfold Lg.ok at hok
          simp only at q0 q1 hok
          obtain ⟨lo, hlo, hlo2⟩ : ∃ lo : List UInt8, nm = ⟨lo.toArray⟩ ∧ nm.data.toList = lo := ⟨nm.data.toList, by simp, rfl⟩
          have hN := refname_any nm (wB.drewN j0) hok.1
          unfold Lg.nm at HSN HNN
          unfold okLg Lg.nm at HBAD HNX
          simp only at HSN HNN HBAD HNX
          rw [hlo2] at hN HSN HNN HBAD HNX
          subst hlo
          have HN := Lib.hid hN
          clear hN hok hlo2 hg
          cases hnb : nameB lo with
          | false =>
            rw [hnb] at HN HBAD
            have HB : Hid (rightB legs = false) := HBAD.out rfl
            clear hnb
            go_wp2_with fail
            refine HN.out.mono ?_
            rintro e w3 ⟨rfl, rfl⟩
            go_wp2
            go_ret
            exact ⟨by rw [HRES.out HB.out]; rfl, HF2.out.drewN _⟩
          | true =>
            rw [hnb] at HN HBAD HNX
            clear hnb
            by_cases hs0 : sm = 0
            · subst hs0
              have HB : Hid (rightB legs = false) := HBAD.out rfl
              go_wp2_with fail
              refine HN.out.mono ?_
              rintro e w3 ⟨rfl, rfl⟩
              go_wp2
              go_ret
              exact ⟨by rw [HRES.out HB.out]; rfl, HF2.out.drewN _⟩
            · have hz : (sm == 0) = false := beq_eq_false_iff_ne.2 hs0
              have HA : Hid ((legs.take (i + 1)).all okLg = true) := HNX.out (by simp [hs0])
              clear hs0 HBAD HNX
              go_wp2_with fail
              refine HN.out.mono ?_
              rintro e w3 ⟨rfl, rfl⟩
              go_wp2_with fail
              go_loopw [6] (fun kv ws => RkRelO wB legs i lo kv ws) (fun kv _ => i - (intOf kv).toNat)
              case atStart => exact ⟨0, j0, Nat.zero_le _, rfl, fun x hx => by simp at hx, rfl⟩
              case round =>
                obtain ⟨k, j1, hk, rfl, hno, rfl⟩ := hrel
                by_cases hki : k < i
                · obtain ⟨bd, hbd, _, hok2, p0, p1⟩ := lg_at HR.out HE.out k (by omega) (by omega)
                  injection hbd with hbd
                  subst hbd
                  have HTK : Hid (legs.take (k + 1) = legs.take k ++ [legs[k]]) := List.take_succ_eq_append_getElem (by omega)
                  have HNK := Lib.hid (HNN.out k hki)
                  have HNO := Lib.hid hno
                  generalize legs[k] = h at *
                  obtain ⟨nk, sk⟩ := h
                  simp only at p0 p1
                  obtain ⟨lk, hlk, hlk2⟩ : ∃ lo : List UInt8, nk = ⟨lo.toArray⟩ ∧ nk.data.toList = lo := ⟨nk.data.toList, by simp, rfl⟩
                  simp only [hlk2] at HNK
                  subst hlk
                  clear hno hok2 hlk2 HN HNN
                  by_cases hn : lk = lo
                  · subst hn
                    have HB : Hid (rightB legs = false) := HNK.out rfl
                    go_wp2
                    go_quiet (fail)
                    go_wp2
                    go_ret
                    exact ⟨by rw [HRES.out HB.out]; rfl, (HF2.out.drewN _).drewN _⟩
                  · have hz1 : (lk == lo) = false := beq_eq_false_iff_ne.2 hn
                    have hz2 : ((⟨lk.toArray⟩ : ByteArray).toList == (⟨lo.toArray⟩ : ByteArray).toList) = false := by rw [ByteArray.toList_eq, ByteArray.toList_eq]; exact hz1
                    have HNE := Lib.hid hn
                    clear hn
                    go_wp2
                    go_quiet (fail)
                    go_wp2
                    go_roundw
                    case rel =>
                      refine ⟨k + 1, _, by omega, by go_num, fun x hx => ?_, rfl⟩
                      rw [HTK.out, List.mem_append, List.mem_singleton] at hx
                      rcases hx with hx | hx
                      · exact HNO.out x hx
                      · rw [hx]; exact HNE.out
                    case measure => simp [intOf]; omega
                · obtain rfl : k = i := by omega
                  have HD : Hid (((legs.take (k + 1)).map Lg.nm).Nodup) := HSN.out hno
                  clear hno
                  go_wp2
                  go_roundw
                  case rel => exact ⟨k + 1, _, by omega, by go_num, HA.out, HD.out, rfl⟩
                  case measure => simp [intOf]; omega
        · obtain rfl : i = legs.length := by omega
          have HEN : Hid (rightB legs = (decide (2 ≤ legs.length) && decide (legs.length ≤ 6))) := by
            have h1 := HALL.out
            have h2 := HND.out
            rw [List.take_length] at h1 h2
            exact right_endO h1 h2
          have HX9 : Hid (rightB legs = true → note.data.toList.length ≤ 20 → res = true) := HREST.out
          have HX8 : Hid (¬ note.data.toList.length ≤ 20 → res = false) := HRESN.out
          have hns : note.size = note.data.toList.length := rfl
          by_cases h2 : 2 ≤ legs.length
          · by_cases h6 : legs.length ≤ 6
            · have HB : Hid (rightB legs = true) := by show _ = _; rw [HEN.out, decide_eq_true h2, decide_eq_true h6]; rfl
              have h2' : decide ((2 : Int) ≤ (legs.length : Int)) = true := decide_eq_true (by omega)
              have h6' : decide ((legs.length : Int) ≤ 6) = true := decide_eq_true (by omega)
              by_cases h20 : note.data.toList.length ≤ 20
              · obtain rfl : res = true := HX9.out HB.out h20
                have hsz : decide ((note.size : Int) ≤ 20) = true := decide_eq_true (by omega)
                clear hns h20 h2 h6
                go_wp2
                go_ret
                exact ⟨rfl, HF2.out.drewN _⟩
              · obtain rfl : res = false := HX8.out h20
                have hsz : decide ((note.size : Int) ≤ 20) = false := decide_eq_false (by omega)
                clear hns h20 h2 h6
                go_wp2
                go_ret
                exact ⟨rfl, HF2.out.drewN _⟩
            · have HB : Hid (rightB legs = false) := by show _ = _; rw [HEN.out, decide_eq_false h6]; simp
              obtain rfl : res = false := HRES.out HB.out
              have h2' : decide ((2 : Int) ≤ (legs.length : Int)) = true := decide_eq_true (by omega)
              have h6' : decide ((legs.length : Int) ≤ 6) = false := decide_eq_false (by omega)
              go_wp2
              go_ret
              exact ⟨rfl, HF2.out.drewN _⟩
          · have HB : Hid (rightB legs = false) := by show _ = _; rw [HEN.out, decide_eq_false h2]; rfl
            obtain rfl : res = false := HRES.out HB.out
            have h2' : decide ((2 : Int) ≤ (legs.length : Int)) = false := decide_eq_false (by omega)
            go_wp2
            go_ret
            exact ⟨rfl, HF2.out.drewN _⟩
    · obtain rfl : peer = ⟨#[]⟩ := (congrArg Od.peer HEQ.out).trans (by simp [bareO])
      obtain rfl : legs = [] := (congrArg Od.legs HEQ.out).trans (by simp [bareO])
      obtain rfl : per = 0 := (congrArg Od.per HEQ.out).trans (by simp [bareO])
      obtain rfl : hold = 0 := (congrArg Od.hold HEQ.out).trans (by simp [bareO])
      obtain rfl : note = ⟨#[]⟩ := (congrArg Od.note HEQ.out).trans (by simp [bareO])
      have x0 := hp2.cell 0
      have x1 := hp2.cell 1
      have x2 := hp2.cell 2
      have x3 := hp2.cell 3
      have x4 := hp2.cell 4
      have x5 := hp2.cell 5
      have x6 := hp2.cell 6
      have x7 := hp2.cell 7
      have x8 := hp2.cell 8
      have x9 := hp2.cell 9
      simp only [List.getElem?_toArray, List.getElem?_cons_zero, List.getElem?_cons_succ] at x0 x1 x2 x3 x4 x5 x6 x7 x8 x9
      clear HEQ hp2
      have HN := Lib.hid (fun W => refname_any acct W o1)
      cases hn : nameB acct.data.toList with
      | false =>
        rw [hn] at HN
        obtain rfl : res = false := by
          rw [← hR]
          unfold rightO acctB peerB sumB legsB perB holdB noteB Od.an Od.pn
          simp [HID.out, hn]
        clear hR
        go_wp2_with fail
        refine (HN.out _).mono ?_
        rintro e u3 ⟨rfl, rfl⟩
        go_wp2
        go_ret
        exact ⟨rfl, HF2.out⟩
      | true =>
        rw [hn] at HN
        by_cases q0 : sum < 1
        · obtain rfl : res = false := by
            rw [← hR]
            unfold rightO acctB peerB sumB legsB perB holdB noteB Od.an Od.pn
            simp [HID.out, hn, show ¬ (1 ≤ sum) by omega]
          clear hR
          go_wp2_with fail
          refine (HN.out _).mono ?_
          rintro e u3 ⟨rfl, rfl⟩
          go_wp2
          go_ret
          exact ⟨rfl, HF2.out⟩
        obtain rfl : res = true := by
          rw [← hR]
          unfold rightO acctB peerB sumB legsB perB holdB noteB Od.an Od.pn
          simp [HID.out, hn, show 1 ≤ sum by omega]
        clear hR
        go_wp2_with fail
        refine (HN.out _).mono ?_
        rintro e u3 ⟨rfl, rfl⟩
        go_wp2
        go_ret
        exact ⟨rfl, HF2.out⟩
    · obtain rfl : legs = [] := (congrArg Od.legs HEQ.out).trans (by simp [bareO])
      obtain rfl : note = ⟨#[]⟩ := (congrArg Od.note HEQ.out).trans (by simp [bareO])
      have x0 := hp2.cell 0
      have x1 := hp2.cell 1
      have x2 := hp2.cell 2
      have x3 := hp2.cell 3
      have x4 := hp2.cell 4
      have x5 := hp2.cell 5
      have x6 := hp2.cell 6
      have x7 := hp2.cell 7
      have x8 := hp2.cell 8
      have x9 := hp2.cell 9
      simp only [List.getElem?_toArray, List.getElem?_cons_zero, List.getElem?_cons_succ] at x0 x1 x2 x3 x4 x5 x6 x7 x8 x9
      clear HEQ hp2
      have HN := Lib.hid (fun W => refname_any acct W o1)
      cases hn : nameB acct.data.toList with
      | false =>
        rw [hn] at HN
        obtain rfl : res = false := by
          rw [← hR]
          unfold rightO acctB peerB sumB legsB perB holdB noteB Od.an Od.pn
          simp [HID.out, hn]
        clear hR
        go_wp2_with fail
        refine (HN.out _).mono ?_
        rintro e u3 ⟨rfl, rfl⟩
        go_wp2
        go_ret
        exact ⟨rfl, HF2.out⟩
      | true =>
        rw [hn] at HN
        by_cases q0 : sum < 1
        · obtain rfl : res = false := by
            rw [← hR]
            unfold rightO acctB peerB sumB legsB perB holdB noteB Od.an Od.pn
            simp [HID.out, hn, show ¬ (1 ≤ sum) by omega]
          clear hR
          go_wp2_with fail
          refine (HN.out _).mono ?_
          rintro e u3 ⟨rfl, rfl⟩
          go_wp2
          go_ret
          exact ⟨rfl, HF2.out⟩
        by_cases q1 : per < 1
        · obtain rfl : res = false := by
            rw [← hR]
            unfold rightO acctB peerB sumB legsB perB holdB noteB Od.an Od.pn
            simp [HID.out, hn, show 1 ≤ sum by omega, show ¬ (1 ≤ per) by omega]
          clear hR
          go_wp2_with fail
          refine (HN.out _).mono ?_
          rintro e u3 ⟨rfl, rfl⟩
          go_wp2
          go_ret
          exact ⟨rfl, HF2.out⟩
        by_cases q2 : 1000 < per
        · obtain rfl : res = false := by
            rw [← hR]
            unfold rightO acctB peerB sumB legsB perB holdB noteB Od.an Od.pn
            simp [HID.out, hn, show 1 ≤ sum by omega, show 1 ≤ per by omega, show ¬ (per ≤ 1000) by omega]
          clear hR
          go_wp2_with fail
          refine (HN.out _).mono ?_
          rintro e u3 ⟨rfl, rfl⟩
          go_wp2
          go_ret
          exact ⟨rfl, HF2.out⟩
        by_cases q3 : hold < 1
        · obtain rfl : res = false := by
            rw [← hR]
            unfold rightO acctB peerB sumB legsB perB holdB noteB Od.an Od.pn
            simp [HID.out, hn, show 1 ≤ sum by omega, show 1 ≤ per by omega, show per ≤ 1000 by omega, show ¬ (1 ≤ hold) by omega]
          clear hR
          go_wp2_with fail
          refine (HN.out _).mono ?_
          rintro e u3 ⟨rfl, rfl⟩
          go_wp2
          go_ret
          exact ⟨rfl, HF2.out⟩
        by_cases q4 : 9999 < hold
        · obtain rfl : res = false := by
            rw [← hR]
            unfold rightO acctB peerB sumB legsB perB holdB noteB Od.an Od.pn
            simp [HID.out, hn, show 1 ≤ sum by omega, show 1 ≤ per by omega, show per ≤ 1000 by omega, show 1 ≤ hold by omega, show ¬ (hold ≤ 9999) by omega]
          clear hR
          go_wp2_with fail
          refine (HN.out _).mono ?_
          rintro e u3 ⟨rfl, rfl⟩
          go_wp2
          go_ret
          exact ⟨rfl, HF2.out⟩
        have HM := Lib.hid (fun W => refname_any peer W o2)
        cases hm : nameB peer.data.toList with
        | false =>
          rw [hm] at HM
          obtain rfl : res = false := by
            rw [← hR]
            unfold rightO acctB peerB sumB legsB perB holdB noteB Od.an Od.pn
            simp [HID.out, hn, show 1 ≤ sum by omega, show 1 ≤ per by omega, show per ≤ 1000 by omega, show 1 ≤ hold by omega, show hold ≤ 9999 by omega, hm]
          clear hR
          go_wp2_with fail
          refine (HN.out _).mono ?_
          rintro e u3 ⟨rfl, rfl⟩
          go_wp2_with fail
          refine (HM.out _).mono ?_
          rintro e u4 ⟨rfl, rfl⟩
          go_wp2
          go_ret
          exact ⟨rfl, HF2.out⟩
        | true =>
          rw [hm] at HM
          by_cases hpa : peer.data.toList = acct.data.toList
          · obtain rfl : res = false := by
              rw [← hR]
              unfold rightO acctB peerB sumB legsB perB holdB noteB Od.an Od.pn
              simp [HID.out, hn, show 1 ≤ sum by omega, show 1 ≤ per by omega, show per ≤ 1000 by omega, show 1 ≤ hold by omega, show hold ≤ 9999 by omega, hm, hpa]
            clear hR
            obtain rfl := bytes_ext hpa
            go_wp2_with fail
            refine (HN.out _).mono ?_
            rintro e u3 ⟨rfl, rfl⟩
            go_wp2_with fail
            refine (HM.out _).mono ?_
            rintro e u4 ⟨rfl, rfl⟩
            go_wp2
            go_ret
            exact ⟨rfl, HF2.out⟩
          · have hpd : ¬ peer.data = acct.data := fun e => hpa (by rw [e])
            obtain rfl : res = true := by
              rw [← hR]
              unfold rightO acctB peerB sumB legsB perB holdB noteB Od.an Od.pn
              simp [HID.out, hn, show 1 ≤ sum by omega, show 1 ≤ per by omega, show per ≤ 1000 by omega, show 1 ≤ hold by omega, show hold ≤ 9999 by omega, hm, hpa, hpd]
            have hz : (peer.toList == acct.toList) = false := by rw [ByteArray.toList_eq, ByteArray.toList_eq]; exact beq_eq_false_iff_ne.2 hpa
            clear hR
            go_wp2_with fail
            refine (HN.out _).mono ?_
            rintro e u3 ⟨rfl, rfl⟩
            go_wp2_with fail
            refine (HM.out _).mono ?_
            rintro e u4 ⟨rfl, rfl⟩
            go_wp2
            go_ret
            exact ⟨rfl, HF2.out⟩
    · obtain rfl : peer = ⟨#[]⟩ := (congrArg Od.peer HEQ.out).trans (by simp [bareO])
      obtain rfl : sum = 0 := (congrArg Od.sum HEQ.out).trans (by simp [bareO])
      obtain rfl : legs = [] := (congrArg Od.legs HEQ.out).trans (by simp [bareO])
      obtain rfl : per = 0 := (congrArg Od.per HEQ.out).trans (by simp [bareO])
      obtain rfl : note = ⟨#[]⟩ := (congrArg Od.note HEQ.out).trans (by simp [bareO])
      have x0 := hp2.cell 0
      have x1 := hp2.cell 1
      have x2 := hp2.cell 2
      have x3 := hp2.cell 3
      have x4 := hp2.cell 4
      have x5 := hp2.cell 5
      have x6 := hp2.cell 6
      have x7 := hp2.cell 7
      have x8 := hp2.cell 8
      have x9 := hp2.cell 9
      simp only [List.getElem?_toArray, List.getElem?_cons_zero, List.getElem?_cons_succ] at x0 x1 x2 x3 x4 x5 x6 x7 x8 x9
      clear HEQ hp2
      have HN := Lib.hid (fun W => refname_any acct W o1)
      cases hn : nameB acct.data.toList with
      | false =>
        rw [hn] at HN
        obtain rfl : res = false := by
          rw [← hR]
          unfold rightO acctB peerB sumB legsB perB holdB noteB Od.an Od.pn
          simp [HID.out, hn]
        clear hR
        go_wp2_with fail
        refine (HN.out _).mono ?_
        rintro e u3 ⟨rfl, rfl⟩
        go_wp2
        go_ret
        exact ⟨rfl, HF2.out⟩
      | true =>
        rw [hn] at HN
        by_cases q0 : hold < 1
        · obtain rfl : res = false := by
            rw [← hR]
            unfold rightO acctB peerB sumB legsB perB holdB noteB Od.an Od.pn
            simp [HID.out, hn, show ¬ (1 ≤ hold) by omega]
          clear hR
          go_wp2_with fail
          refine (HN.out _).mono ?_
          rintro e u3 ⟨rfl, rfl⟩
          go_wp2
          go_ret
          exact ⟨rfl, HF2.out⟩
        by_cases q1 : 9999 < hold
        · obtain rfl : res = false := by
            rw [← hR]
            unfold rightO acctB peerB sumB legsB perB holdB noteB Od.an Od.pn
            simp [HID.out, hn, show 1 ≤ hold by omega, show ¬ (hold ≤ 9999) by omega]
          clear hR
          go_wp2_with fail
          refine (HN.out _).mono ?_
          rintro e u3 ⟨rfl, rfl⟩
          go_wp2
          go_ret
          exact ⟨rfl, HF2.out⟩
        obtain rfl : res = true := by
          rw [← hR]
          unfold rightO acctB peerB sumB legsB perB holdB noteB Od.an Od.pn
          simp [HID.out, hn, show 1 ≤ hold by omega, show hold ≤ 9999 by omega]
        clear hR
        go_wp2_with fail
        refine (HN.out _).mono ?_
        rintro e u3 ⟨rfl, rfl⟩
        go_wp2
        go_ret
        exact ⟨rfl, HF2.out⟩
    · obtain rfl : acct = ⟨#[]⟩ := (congrArg Od.acct HEQ.out).trans (by simp [bareO])
      obtain rfl : peer = ⟨#[]⟩ := (congrArg Od.peer HEQ.out).trans (by simp [bareO])
      obtain rfl : sum = 0 := (congrArg Od.sum HEQ.out).trans (by simp [bareO])
      obtain rfl : legs = [] := (congrArg Od.legs HEQ.out).trans (by simp [bareO])
      obtain rfl : hold = 0 := (congrArg Od.hold HEQ.out).trans (by simp [bareO])
      obtain rfl : note = ⟨#[]⟩ := (congrArg Od.note HEQ.out).trans (by simp [bareO])
      have x0 := hp2.cell 0
      have x1 := hp2.cell 1
      have x2 := hp2.cell 2
      have x3 := hp2.cell 3
      have x4 := hp2.cell 4
      have x5 := hp2.cell 5
      have x6 := hp2.cell 6
      have x7 := hp2.cell 7
      have x8 := hp2.cell 8
      have x9 := hp2.cell 9
      simp only [List.getElem?_toArray, List.getElem?_cons_zero, List.getElem?_cons_succ] at x0 x1 x2 x3 x4 x5 x6 x7 x8 x9
      clear HEQ hp2
      by_cases q0 : per < 1
      · obtain rfl : res = false := by
          rw [← hR]
          unfold rightO acctB peerB sumB legsB perB holdB noteB Od.an Od.pn
          simp [HID.out, show ¬ (1 ≤ per) by omega]
        clear hR
        go_wp2
        go_ret
        exact ⟨rfl, HF2.out⟩
      by_cases q1 : 1000 < per
      · obtain rfl : res = false := by
          rw [← hR]
          unfold rightO acctB peerB sumB legsB perB holdB noteB Od.an Od.pn
          simp [HID.out, show 1 ≤ per by omega, show ¬ (per ≤ 1000) by omega]
        clear hR
        go_wp2
        go_ret
        exact ⟨rfl, HF2.out⟩
      obtain rfl : res = true := by
        rw [← hR]
        unfold rightO acctB peerB sumB legsB perB holdB noteB Od.an Od.pn
        simp [HID.out, show 1 ≤ per by omega, show per ≤ 1000 by omega]
      clear hR
      go_wp2
      go_ret
      exact ⟨rfl, HF2.out⟩
    · obtain rfl : peer = ⟨#[]⟩ := (congrArg Od.peer HEQ.out).trans (by simp [bareO])
      obtain rfl : sum = 0 := (congrArg Od.sum HEQ.out).trans (by simp [bareO])
      obtain rfl : legs = [] := (congrArg Od.legs HEQ.out).trans (by simp [bareO])
      obtain rfl : per = 0 := (congrArg Od.per HEQ.out).trans (by simp [bareO])
      obtain rfl : hold = 0 := (congrArg Od.hold HEQ.out).trans (by simp [bareO])
      obtain rfl : note = ⟨#[]⟩ := (congrArg Od.note HEQ.out).trans (by simp [bareO])
      have x0 := hp2.cell 0
      have x1 := hp2.cell 1
      have x2 := hp2.cell 2
      have x3 := hp2.cell 3
      have x4 := hp2.cell 4
      have x5 := hp2.cell 5
      have x6 := hp2.cell 6
      have x7 := hp2.cell 7
      have x8 := hp2.cell 8
      have x9 := hp2.cell 9
      simp only [List.getElem?_toArray, List.getElem?_cons_zero, List.getElem?_cons_succ] at x0 x1 x2 x3 x4 x5 x6 x7 x8 x9
      clear HEQ hp2
      have HN := Lib.hid (fun W => refname_any acct W o1)
      cases hn : nameB acct.data.toList with
      | false =>
        rw [hn] at HN
        obtain rfl : res = false := by
          rw [← hR]
          unfold rightO acctB peerB sumB legsB perB holdB noteB Od.an Od.pn
          simp [HID.out, hn]
        clear hR
        go_wp2_with fail
        refine (HN.out _).mono ?_
        rintro e u3 ⟨rfl, rfl⟩
        go_wp2
        go_ret
        exact ⟨rfl, HF2.out⟩
      | true =>
        rw [hn] at HN
        obtain rfl : res = true := by
          rw [← hR]
          unfold rightO acctB peerB sumB legsB perB holdB noteB Od.an Od.pn
          simp [HID.out, hn]
        clear hR
        go_wp2_with fail
        refine (HN.out _).mono ?_
        rintro e u3 ⟨rfl, rfl⟩
        go_wp2
        go_ret
        exact ⟨rfl, HF2.out⟩
end Go.Proofs.YtnphncemghfkbaaGreat
