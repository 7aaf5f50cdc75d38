/- The document's own Same of orders. -/
import Derived.Test.YtkkhdjchfhmliaaGreatMOV
import Derived.Deep.RegionHeld3
import Derived.Deep.DrawnRows
namespace Go.Proofs.YtkkhdjchfhmliaaGreat
open Go.RowKit Go.My Go.Maps
set_option linter.unusedSimpArgs false
set_option linter.unusedVariables false
attribute [local go_sem ↓] Go.wp_at_zero Go.wp_at_succ

theorem neq_id (a b c d : Int) (W : World) (h : ¬ (a = c ∧ b = d)) : (binOp .neq 36 (.agg #[.int .i64 a, .int .i64 b]) (.agg #[.int .i64 c, .int .i64 d])).run Tryz.prog W = .ok (.bool true) W := by
  simp [go_sem]
  intro h1
  exact fun h2 => h ⟨h1, h2⟩
theorem eqO_ne {o r : Od} (h : o ≠ r) : eqO o r = false := by
  cases hq : eqO o r with
  | false => rfl
  | true => exact absurd ((eqO_iff _ _).1 hq) h
set_option maxRecDepth 100000 in
set_option maxHeartbeats 8000000 in
theorem refsameO_any (F G : Nat → Prop) (o r : Od) (v u : Value) (w : World) (hv : LgS w F v o.legs) (hu : LgS w G u r.legs) :
    Calls Tryz.prog 26 #[o.val v, r.val u] w fun e w' => e = .returned (.bool (eqO o r)) ∧ Fr No w w' := by
  obtain ⟨acl, asq, akd, aac, ape, asm, alg, apr, ahd, ant⟩ := o
  obtain ⟨bcl, bsq, bkd, bac, bpe, bsm, blg, bpr, bhd, bnt⟩ := r
  unfold Od.val Od.cs
  have hv0 := hv
  have hu0 := hu
  obtain ⟨aA, aC, rfl, alc, acm⟩ := hv0.form
  obtain ⟨bA, bC, rfl, blc, bcm⟩ := hu0.form
  simp only at hv hu alc blc ⊢
  clear hv0 hu0
  have hpa := (Blk.new w 39 #[.int .i64 acl, .int .i64 asq, .int .i64 akd, .string aac, .string ape, .int .i64 asm, .slice aA alg.length aC, .int .i64 apr, .int .i64 ahd, .string ant]).alloc (.cells #[.int .i64 bcl, .int .i64 bsq, .int .i64 bkd, .string bac, .string bpe, .int .i64 bsm, .slice bA blg.length bC, .int .i64 bpr, .int .i64 bhd, .string bnt] 39)
  have hpb := Blk.new (w.alloc (.cells #[.int .i64 acl, .int .i64 asq, .int .i64 akd, .string aac, .string ape, .int .i64 asm, .slice aA alg.length aC, .int .i64 apr, .int .i64 ahd, .string ant] 39)) 39 #[.int .i64 bcl, .int .i64 bsq, .int .i64 bkd, .string bac, .string bpe, .int .i64 bsm, .slice bA blg.length bC, .int .i64 bpr, .int .i64 bhd, .string bnt]
  rw [World.size_alloc] at hpb
  have hf0 : Fr No w ((w.alloc (.cells #[.int .i64 acl, .int .i64 asq, .int .i64 akd, .string aac, .string ape, .int .i64 asm, .slice aA alg.length aC, .int .i64 apr, .int .i64 ahd, .string ant] 39)).alloc (.cells #[.int .i64 bcl, .int .i64 bsq, .int .i64 bkd, .string bac, .string bpe, .int .i64 bsm, .slice bA blg.length bC, .int .i64 bpr, .int .i64 bhd, .string bnt] 39)) := ((Fr.refl _ _).alloc _).alloc _
  have hlv := hv.no hf0
  have hlu := hu.no hf0
  clear hv hu
  generalize hEQ : eqO ⟨acl, asq, akd, aac, ape, asm, alg, apr, ahd, ant⟩ ⟨bcl, bsq, bkd, bac, bpe, bsm, blg, bpr, bhd, bnt⟩ = res at *
  go_enter Tryz.func26, Tryz.ntmps26
  go_upto_region 1 with (fail)
  generalize ((w.alloc (.cells #[.int .i64 acl, .int .i64 asq, .int .i64 akd, .string aac, .string ape, .int .i64 asm, .slice aA alg.length aC, .int .i64 apr, .int .i64 ahd, .string ant] 39)).alloc (.cells #[.int .i64 bcl, .int .i64 bsq, .int .i64 bkd, .string bac, .string bpe, .int .i64 bsm, .slice bA blg.length bC, .int .i64 bpr, .int .i64 bhd, .string bnt] 39)) = w2 at *
  have x0 := hpa.cell 0
  have x1 := hpa.cell 1
  have x2 := hpa.cell 2
  have x3 := hpa.cell 3
  have x4 := hpa.cell 4
  have x5 := hpa.cell 5
  have x6 := hpa.cell 6
  have x7 := hpa.cell 7
  have x8 := hpa.cell 8
  have x9 := hpa.cell 9
  simp only [List.getElem?_toArray, List.getElem?_cons_zero, List.getElem?_cons_succ] at x0 x1 x2 x3 x4 x5 x6 x7 x8 x9
  have y0 := hpb.cell 0
  have y1 := hpb.cell 1
  have y2 := hpb.cell 2
  have y3 := hpb.cell 3
  have y4 := hpb.cell 4
  have y5 := hpb.cell 5
  have y6 := hpb.cell 6
  have y7 := hpb.cell 7
  have y8 := hpb.cell 8
  have y9 := hpb.cell 9
  simp only [List.getElem?_toArray, List.getElem?_cons_zero, List.getElem?_cons_succ] at y0 y1 y2 y3 y4 y5 y6 y7 y8 y9
  have HF := Lib.hid hf0
  clear hf0 hpa hpb
  by_cases h2 : acl = bcl ∧ asq = bsq
  rotate_left
  · obtain rfl : res = false := by
      rw [← hEQ]
      apply eqO_ne
      intro h
      simp only [Od.mk.injEq] at h
      exact h2 ⟨h.1, h.2.1⟩
    have hne := fun W => neq_id acl asq bcl bsq W h2
    clear hEQ h2 hlv hlu
    go_wp2
    go_ret
    exact ⟨rfl, HF.out⟩
  obtain ⟨rfl, rfl⟩ := h2
  by_cases h2 : akd = bkd
  rotate_left
  · obtain rfl : res = false := by
      rw [← hEQ]
      apply eqO_ne
      intro h
      simp only [Od.mk.injEq] at h
      exact h2 (by simp only [h])
    have hz : (akd != bkd) = true := bne_iff_ne.2 h2
    have hz2 : (akd == bkd) = false := beq_eq_false_iff_ne.2 h2
    clear hEQ h2 hlv hlu
    go_wp2
    go_ret
    exact ⟨rfl, HF.out⟩
  subst h2
  by_cases h2 : aac.data.toList = bac.data.toList
  rotate_left
  · obtain rfl : res = false := by
      rw [← hEQ]
      apply eqO_ne
      intro h
      simp only [Od.mk.injEq] at h
      exact h2 (by simp only [h])
    have hz2 : (aac.toList == bac.toList) = false := by rw [ByteArray.toList_eq, ByteArray.toList_eq]; exact beq_eq_false_iff_ne.2 h2
    have hz : (aac.toList != bac.toList) = true := by rw [bne, hz2]; rfl
    clear hEQ h2 hlv hlu
    go_wp2
    go_ret
    exact ⟨rfl, HF.out⟩
  obtain rfl := bytes_ext h2
  clear h2
  by_cases h2 : ape.data.toList = bpe.data.toList
  rotate_left
  · obtain rfl : res = false := by
      rw [← hEQ]
      apply eqO_ne
      intro h
      simp only [Od.mk.injEq] at h
      exact h2 (by simp only [h])
    have hz2 : (ape.toList == bpe.toList) = false := by rw [ByteArray.toList_eq, ByteArray.toList_eq]; exact beq_eq_false_iff_ne.2 h2
    have hz : (ape.toList != bpe.toList) = true := by rw [bne, hz2]; rfl
    clear hEQ h2 hlv hlu
    go_wp2
    go_ret
    exact ⟨rfl, HF.out⟩
  obtain rfl := bytes_ext h2
  clear h2
  by_cases h2 : asm = bsm
  rotate_left
  · obtain rfl : res = false := by
      rw [← hEQ]
      apply eqO_ne
      intro h
      simp only [Od.mk.injEq] at h
      exact h2 (by simp only [h])
    have hz : (asm != bsm) = true := bne_iff_ne.2 h2
    have hz2 : (asm == bsm) = false := beq_eq_false_iff_ne.2 h2
    clear hEQ h2 hlv hlu
    go_wp2
    go_ret
    exact ⟨rfl, HF.out⟩
  subst h2
  by_cases h2 : apr = bpr
  rotate_left
  · obtain rfl : res = false := by
      rw [← hEQ]
      apply eqO_ne
      intro h
      simp only [Od.mk.injEq] at h
      exact h2 (by simp only [h])
    have hz : (apr != bpr) = true := bne_iff_ne.2 h2
    have hz2 : (apr == bpr) = false := beq_eq_false_iff_ne.2 h2
    clear hEQ h2 hlv hlu
    go_wp2
    go_ret
    exact ⟨rfl, HF.out⟩
  subst h2
  by_cases h2 : ahd = bhd
  rotate_left
  · obtain rfl : res = false := by
      rw [← hEQ]
      apply eqO_ne
      intro h
      simp only [Od.mk.injEq] at h
      exact h2 (by simp only [h])
    have hz : (ahd != bhd) = true := bne_iff_ne.2 h2
    have hz2 : (ahd == bhd) = false := beq_eq_false_iff_ne.2 h2
    clear hEQ h2 hlv hlu
    go_wp2
    go_ret
    exact ⟨rfl, HF.out⟩
  subst h2
  by_cases h2 : ant.data.toList = bnt.data.toList
  rotate_left
  · obtain rfl : res = false := by
      rw [← hEQ]
      apply eqO_ne
      intro h
      simp only [Od.mk.injEq] at h
      exact h2 (by simp only [h])
    have hz2 : (ant.toList == bnt.toList) = false := by rw [ByteArray.toList_eq, ByteArray.toList_eq]; exact beq_eq_false_iff_ne.2 h2
    have hz : (ant.toList != bnt.toList) = true := by rw [bne, hz2]; rfl
    clear hEQ h2 hlv hlu
    go_wp2
    go_ret
    exact ⟨rfl, HF.out⟩
  obtain rfl := bytes_ext h2
  clear h2
  by_cases h2 : alg.length = blg.length
  rotate_left
  · obtain rfl : res = false := by
      rw [← hEQ]
      apply eqO_ne
      intro h
      simp only [Od.mk.injEq] at h
      exact h2 (by simp only [h])
    have hz : ((alg.length : Int) != (blg.length : Int)) = true := by rw [bne_iff_ne]; omega
    clear hEQ h2 hlv hlu
    go_wp2
    go_ret
    exact ⟨rfl, HF.out⟩
  have HL := Lib.hid h2
  have hz : ((alg.length : Int) != (blg.length : Int)) = false := by rw [bne_eq_false_iff_eq]; omega
  clear h2
  have HEQ := Lib.hid hEQ
  obtain ⟨A', c', cA, e1, hA, eA, _, _⟩ := hlv
  cases e1
  obtain ⟨B', d', cB, e2, hB, eB, _, _⟩ := hlu
  cases e2
  have HA := Lib.hid hA
  have HB := Lib.hid hB
  have EA := Lib.hid eA
  have EB := Lib.hid eB
  clear hA hB eA eB hEQ
  go_wp2
  go_loopw [5] (fun iv wr => ∃ k j : Nat, k ≤ alg.length ∧ iv = .int .i64 k ∧ alg.take k = blg.take k ∧ wr = w2.drewN j) (fun iv _ => alg.length - (intOf iv).toNat)
  case atStart => exact ⟨0, 0, Nat.zero_le _, rfl, rfl, rfl⟩
  case round =>
    obtain ⟨k, j, hk, rfl, heq, rfl⟩ := hrel
    have HE := Lib.hid heq
    clear heq
    by_cases hlt : k < alg.length
    · have hlt2 : k < blg.length := by have := HL.out; omega
      obtain ⟨ad, rfl, _, hok1, p0, p1⟩ := lg_at HA.out EA.out k hlt hlt
      obtain ⟨bd, rfl, _, hok2, q0, q1⟩ := lg_at HB.out EB.out k hlt2 hlt2
      have e1 : alg.take (k + 1) = alg.take k ++ [alg[k]] := List.take_succ_eq_append_getElem hlt
      have e2 : blg.take (k + 1) = blg.take k ++ [blg[k]] := List.take_succ_eq_append_getElem hlt2
      have hk62 : (k : Int) < 9223372036854775807 := by unfold maxLen at acm; omega
      by_cases hxy : alg[k] = blg[k]
      · have E : Hid (alg.take (k + 1) = blg.take (k + 1)) := by show _ = _; rw [e1, e2, HE.out, hxy]
        rw [← hxy] at q0 q1
        clear e1 e2 hxy hok1 hok2
        generalize alg[k].acct = n1 at *
        generalize alg[k].sum = v1 at *
        go_wp2
        go_quiet (fail)
        go_wp2
        go_roundw
        case rel => exact ⟨k + 1, _, by omega, by go_num, E.out, rfl⟩
        case measure => simp [intOf]; omega
      · obtain rfl : res = false := by
          rw [← HEQ.out]
          apply eqO_ne
          intro h
          simp only [Od.mk.injEq] at h
          have h3 : alg = blg := by simp only [h]
          subst h3
          exact hxy rfl
        have hne := fun W => neq_lg alg[k] blg[k] W hxy
        clear e1 e2 hxy hok1 hok2
        generalize alg[k].acct = n1 at *
        generalize alg[k].sum = v1 at *
        generalize blg[k].acct = m1 at *
        generalize blg[k].sum = u1 at *
        go_wp2
        go_quiet (fail)
        go_wp2
        go_ret
        exact ⟨rfl, (HF.out.drewN _).drewN _⟩
    · have hkl : k = alg.length := by omega
      subst hkl
      have h1 := HE.out
      rw [List.take_length, HL.out, List.take_length] at h1
      obtain rfl : res = true := by
        rw [← HEQ.out, eqO_iff]
        simp only [Od.mk.injEq]
        simp [h1]
      clear h1
      go_wp2
      go_ret
      exact ⟨rfl, HF.out.drewN _⟩
end Go.Proofs.YtkkhdjchfhmliaaGreat
