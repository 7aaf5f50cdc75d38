/- The document's own Same of orders. What an order of a Kind may have. The document's own Right of orders. The document's own book in memory, apart from the program's. -/
import Derived.Test.YtjbeaoabhhaiiaaGreatM1
import Derived.Deep.RegionHeld3
import Derived.Deep.DrawnRows
import Derived.Test.YtjbeaoabhhaiiaaGreatRefName
import Derived.Test.YtjbeaoabhhaiiaaGreatM2
namespace Go.Proofs.YtjbeaoabhhaiiaaGreat
open Go.RowKit Go.My Go.Maps
set_option linter.unusedSimpArgs false
set_option linter.unusedVariables false
attribute [local go_sem ↓] Go.wp_at_zero Go.wp_at_succ

theorem neq_id (a b c d : Int) (W : World) (h : ¬ (a = c ∧ b = d)) : (binOp .neq 32 (.agg #[.int .i64 a, .int .i64 b]) (.agg #[.int .i64 c, .int .i64 d])).run Tryz.prog W = .ok (.bool true) W := by
  simp [go_sem]
  intro h1
  exact fun h2 => h ⟨h1, h2⟩
theorem eqO_ne {o r : Od} (h : o ≠ r) : eqO o r = false := by
  cases hq : eqO o r with
  | false => rfl
  | true => exact absurd ((eqO_iff _ _).1 hq) h
set_option maxRecDepth 100000 in
set_option maxHeartbeats 8000000 in
theorem refsameO_any (F G : Nat → Prop) (o r : Od) (v u : Value) (w : World) (hv : LgS w F v o.legs) (hu : LgS w G u r.legs) :
    Calls Tryz.prog 77 #[o.val v, r.val u] w fun e w' => e = .returned (.bool (eqO o r)) ∧ Fr No w w' := by
  obtain ⟨acl, asq, akd, aac, ape, asm, alg, apr, ahd, ant⟩ := o
  obtain ⟨bcl, bsq, bkd, bac, bpe, bsm, blg, bpr, bhd, bnt⟩ := r
  unfold Od.val Od.cs
  have hv0 := hv
  have hu0 := hu
  obtain ⟨aA, aC, rfl, alc, acm⟩ := hv0.form
  obtain ⟨bA, bC, rfl, blc, bcm⟩ := hu0.form
  simp only at hv hu alc blc ⊢
  clear hv0 hu0
  have hpa := (Blk.new w 35 #[.int .i64 acl, .int .i64 asq, .int .i64 akd, .string aac, .string ape, .int .i64 asm, .slice aA alg.length aC, .int .i64 apr, .int .i64 ahd, .string ant]).alloc (.cells #[.int .i64 bcl, .int .i64 bsq, .int .i64 bkd, .string bac, .string bpe, .int .i64 bsm, .slice bA blg.length bC, .int .i64 bpr, .int .i64 bhd, .string bnt] 35)
  have hpb := Blk.new (w.alloc (.cells #[.int .i64 acl, .int .i64 asq, .int .i64 akd, .string aac, .string ape, .int .i64 asm, .slice aA alg.length aC, .int .i64 apr, .int .i64 ahd, .string ant] 35)) 35 #[.int .i64 bcl, .int .i64 bsq, .int .i64 bkd, .string bac, .string bpe, .int .i64 bsm, .slice bA blg.length bC, .int .i64 bpr, .int .i64 bhd, .string bnt]
  rw [World.size_alloc] at hpb
  have hf0 : Fr No w ((w.alloc (.cells #[.int .i64 acl, .int .i64 asq, .int .i64 akd, .string aac, .string ape, .int .i64 asm, .slice aA alg.length aC, .int .i64 apr, .int .i64 ahd, .string ant] 35)).alloc (.cells #[.int .i64 bcl, .int .i64 bsq, .int .i64 bkd, .string bac, .string bpe, .int .i64 bsm, .slice bA blg.length bC, .int .i64 bpr, .int .i64 bhd, .string bnt] 35)) := ((Fr.refl _ _).alloc _).alloc _
  have hlv := hv.no hf0
  have hlu := hu.no hf0
  clear hv hu
  generalize hEQ : eqO ⟨acl, asq, akd, aac, ape, asm, alg, apr, ahd, ant⟩ ⟨bcl, bsq, bkd, bac, bpe, bsm, blg, bpr, bhd, bnt⟩ = res at *
  go_enter Tryz.func77, Tryz.ntmps77
  go_upto_region 1 with (fail)
  generalize ((w.alloc (.cells #[.int .i64 acl, .int .i64 asq, .int .i64 akd, .string aac, .string ape, .int .i64 asm, .slice aA alg.length aC, .int .i64 apr, .int .i64 ahd, .string ant] 35)).alloc (.cells #[.int .i64 bcl, .int .i64 bsq, .int .i64 bkd, .string bac, .string bpe, .int .i64 bsm, .slice bA blg.length bC, .int .i64 bpr, .int .i64 bhd, .string bnt] 35)) = w2 at *
  have x0 := hpa.cell 0
  have x1 := hpa.cell 1
  have x2 := hpa.cell 2
  have x3 := hpa.cell 3
  have x4 := hpa.cell 4
  have x5 := hpa.cell 5
  have x6 := hpa.cell 6
  have x7 := hpa.cell 7
  have x8 := hpa.cell 8
  have x9 := hpa.cell 9
  simp only [List.getElem?_toArray, List.getElem?_cons_zero, List.getElem?_cons_succ] at x0 x1 x2 x3 x4 x5 x6 x7 x8 x9
  have y0 := hpb.cell 0
  have y1 := hpb.cell 1
  have y2 := hpb.cell 2
  have y3 := hpb.cell 3
  have y4 := hpb.cell 4
  have y5 := hpb.cell 5
  have y6 := hpb.cell 6
  have y7 := hpb.cell 7
  have y8 := hpb.cell 8
  have y9 := hpb.cell 9
  simp only [List.getElem?_toArray, List.getElem?_cons_zero, List.getElem?_cons_succ] at y0 y1 y2 y3 y4 y5 y6 y7 y8 y9
  have HF := Lib.hid hf0
  clear hf0 hpa hpb
  by_cases h2 : acl = bcl ∧ asq = bsq
  rotate_left
  · obtain rfl : res = false := by
      rw [← hEQ]
      apply eqO_ne
      intro h
      simp only [Od.mk.injEq] at h
      exact h2 ⟨h.1, h.2.1⟩
    have hne := fun W => neq_id acl asq bcl bsq W h2
    clear hEQ h2 hlv hlu
    go_wp2
    go_ret
    exact ⟨rfl, HF.out⟩
  obtain ⟨rfl, rfl⟩ := h2
  by_cases h2 : akd = bkd
  rotate_left
  · obtain rfl : res = false := by
      rw [← hEQ]
      apply eqO_ne
      intro h
      simp only [Od.mk.injEq] at h
      exact h2 (by simp only [h])
    have hz : (akd != bkd) = true := bne_iff_ne.2 h2
    have hz2 : (akd == bkd) = false := beq_eq_false_iff_ne.2 h2
    clear hEQ h2 hlv hlu
    go_wp2
    go_ret
    exact ⟨rfl, HF.out⟩
  subst h2
  by_cases h2 : aac.data.toList = bac.data.toList
  rotate_left
  · obtain rfl : res = false := by
      rw [← hEQ]
      apply eqO_ne
      intro h
      simp only [Od.mk.injEq] at h
      exact h2 (by simp only [h])
    have hz2 : (aac.toList == bac.toList) = false := by rw [ByteArray.toList_eq, ByteArray.toList_eq]; exact beq_eq_false_iff_ne.2 h2
    have hz : (aac.toList != bac.toList) = true := by rw [bne, hz2]; rfl
    clear hEQ h2 hlv hlu
    go_wp2
    go_ret
    exact ⟨rfl, HF.out⟩
  obtain rfl := bytes_ext h2
  clear h2
  by_cases h2 : ape.data.toList = bpe.data.toList
  rotate_left
  · obtain rfl : res = false := by
      rw [← hEQ]
      apply eqO_ne
      intro h
      simp only [Od.mk.injEq] at h
      exact h2 (by simp only [h])
    have hz2 : (ape.toList == bpe.toList) = false := by rw [ByteArray.toList_eq, ByteArray.toList_eq]; exact beq_eq_false_iff_ne.2 h2
    have hz : (ape.toList != bpe.toList) = true := by rw [bne, hz2]; rfl
    clear hEQ h2 hlv hlu
    go_wp2
    go_ret
    exact ⟨rfl, HF.out⟩
  obtain rfl := bytes_ext h2
  clear h2
  by_cases h2 : asm = bsm
  rotate_left
  · obtain rfl : res = false := by
      rw [← hEQ]
      apply eqO_ne
      intro h
      simp only [Od.mk.injEq] at h
      exact h2 (by simp only [h])
    have hz : (asm != bsm) = true := bne_iff_ne.2 h2
    have hz2 : (asm == bsm) = false := beq_eq_false_iff_ne.2 h2
    clear hEQ h2 hlv hlu
    go_wp2
    go_ret
    exact ⟨rfl, HF.out⟩
  subst h2
  by_cases h2 : apr = bpr
  rotate_left
  · obtain rfl : res = false := by
      rw [← hEQ]
      apply eqO_ne
      intro h
      simp only [Od.mk.injEq] at h
      exact h2 (by simp only [h])
    have hz : (apr != bpr) = true := bne_iff_ne.2 h2
    have hz2 : (apr == bpr) = false := beq_eq_false_iff_ne.2 h2
    clear hEQ h2 hlv hlu
    go_wp2
    go_ret
    exact ⟨rfl, HF.out⟩
  subst h2
  by_cases h2 : ahd = bhd
  rotate_left
  · obtain rfl : res = false := by
      rw [← hEQ]
      apply eqO_ne
      intro h
      simp only [Od.mk.injEq] at h
      exact h2 (by simp only [h])
    have hz : (ahd != bhd) = true := bne_iff_ne.2 h2
    have hz2 : (ahd == bhd) = false := beq_eq_false_iff_ne.2 h2
    clear hEQ h2 hlv hlu
    go_wp2
    go_ret
    exact ⟨rfl, HF.out⟩
  subst h2
  by_cases h2 : ant.data.toList = bnt.data.toList
  rotate_left
  · obtain rfl : res = false := by
      rw [← hEQ]
      apply eqO_ne
      intro h
      simp only [Od.mk.injEq] at h
      exact h2 (by simp only [h])
    have hz2 : (ant.toList == bnt.toList) = false := by rw [ByteArray.toList_eq, ByteArray.toList_eq]; exact beq_eq_false_iff_ne.2 h2
    have hz : (ant.toList != bnt.toList) = true := by rw [bne, hz2]; rfl
    clear hEQ h2 hlv hlu
    go_wp2
    go_ret
    exact ⟨rfl, HF.out⟩
  obtain rfl := bytes_ext h2
  clear h2
  by_cases h2 : alg.length = blg.length
  rotate_left
  · obtain rfl : res = false := by
      rw [← hEQ]
      apply eqO_ne
      intro h
      simp only [Od.mk.injEq] at h
      exact h2 (by simp only [h])
    have hz : ((alg.length : Int) != (blg.length : Int)) = true := by rw [bne_iff_ne]; omega
    clear hEQ h2 hlv hlu
    go_wp2
    go_ret
    exact ⟨rfl, HF.out⟩
  have HL := Lib.hid h2
  have hz : ((alg.length : Int) != (blg.length : Int)) = false := by rw [bne_eq_false_iff_eq]; omega
  clear h2
  have HEQ := Lib.hid hEQ
  obtain ⟨A', c', cA, e1, hA, eA, _, _⟩ := hlv
  cases e1
  obtain ⟨B', d', cB, e2, hB, eB, _, _⟩ := hlu
  cases e2
  have HA := Lib.hid hA
  have HB := Lib.hid hB
  have EA := Lib.hid eA
  have EB := Lib.hid eB
  clear hA hB eA eB hEQ
  go_wp2
  go_loopw [5] (fun iv wr => ∃ k j : Nat, k ≤ alg.length ∧ iv = .int .i64 k ∧ alg.take k = blg.take k ∧ wr = w2.drewN j) (fun iv _ => alg.length - (intOf iv).toNat)
  case atStart => exact ⟨0, 0, Nat.zero_le _, rfl, rfl, rfl⟩
  case round =>
    obtain ⟨k, j, hk, rfl, heq, rfl⟩ := hrel
    have HE := Lib.hid heq
    clear heq
    by_cases hlt : k < alg.length
    · have hlt2 : k < blg.length := by have := HL.out; omega
      obtain ⟨ad, rfl, _, hok1, p0, p1⟩ := lg_at HA.out EA.out k hlt hlt
      obtain ⟨bd, rfl, _, hok2, q0, q1⟩ := lg_at HB.out EB.out k hlt2 hlt2
      have e1 : alg.take (k + 1) = alg.take k ++ [alg[k]] := List.take_succ_eq_append_getElem hlt
      have e2 : blg.take (k + 1) = blg.take k ++ [blg[k]] := List.take_succ_eq_append_getElem hlt2
      have hk62 : (k : Int) < 9223372036854775807 := by unfold maxLen at acm; omega
      by_cases hxy : alg[k] = blg[k]
      · have E : Hid (alg.take (k + 1) = blg.take (k + 1)) := by show _ = _; rw [e1, e2, HE.out, hxy]
        rw [← hxy] at q0 q1
        clear e1 e2 hxy hok1 hok2
        generalize alg[k].acct = n1 at *
        generalize alg[k].sum = v1 at *
        go_wp2
        go_quiet (fail)
        go_wp2
        go_roundw
        case rel => exact ⟨k + 1, _, by omega, by go_num, E.out, rfl⟩
        case measure => simp [intOf]; omega
      · obtain rfl : res = false := by
          rw [← HEQ.out]
          apply eqO_ne
          intro h
          simp only [Od.mk.injEq] at h
          have h3 : alg = blg := by simp only [h]
          subst h3
          exact hxy rfl
        have hne := fun W => neq_lg alg[k] blg[k] W hxy
        clear e1 e2 hxy hok1 hok2
        generalize alg[k].acct = n1 at *
        generalize alg[k].sum = v1 at *
        generalize blg[k].acct = m1 at *
        generalize blg[k].sum = u1 at *
        go_wp2
        go_quiet (fail)
        go_wp2
        go_ret
        exact ⟨rfl, (HF.out.drewN _).drewN _⟩
    · have hkl : k = alg.length := by omega
      subst hkl
      have h1 := HE.out
      rw [List.take_length, HL.out, List.take_length] at h1
      obtain rfl : res = true := by
        rw [← HEQ.out, eqO_iff]
        simp only [Od.mk.injEq]
        simp [h1]
      clear h1
      go_wp2
      go_ret
      exact ⟨rfl, HF.out.drewN _⟩
end Go.Proofs.YtjbeaoabhhaiiaaGreat

namespace Go.Proofs.YtjbeaoabhhaiiaaGreat
open Go.RowKit Go.My Go.Maps
set_option linter.unusedSimpArgs false
set_option linter.unusedVariables false
attribute [local go_sem ↓] Go.wp_at_zero Go.wp_at_succ

def bareO (o : Od) : Od := ⟨o.cl, o.sq, o.kd, if o.kd ≠ 2 ∧ o.kd ≠ 6 then o.acct else ⟨#[]⟩, if o.kd = 4 then o.peer else ⟨#[]⟩, if o.kd = 1 ∨ o.kd = 3 ∨ o.kd = 4 then o.sum else 0, if o.kd = 2 then o.legs else [], if o.kd = 2 ∨ o.kd = 4 ∨ o.kd = 6 then o.per else 0, if o.kd = 4 ∨ o.kd = 5 then o.hold else 0, if o.kd = 2 then o.note else ⟨#[]⟩⟩
def bareV (k : Int) (v : Value) : Value := if k = 2 then v else .slice none 0 0
set_option maxRecDepth 100000 in
set_option maxHeartbeats 8000000 in
theorem bare_1 (cl sq : Int) (acct peer : ByteArray) (sum : Int) (vA : Option Addr) (vn vc : Nat) (per hold : Int) (note : ByteArray) (w : World) :
    Calls Tryz.prog 78 #[.agg #[.int .i64 cl, .int .i64 sq, .int .i64 1, .string acct, .string peer, .int .i64 sum, .slice vA vn vc, .int .i64 per, .int .i64 hold, .string note]] w fun e w' => e = .returned (.agg #[.int .i64 cl, .int .i64 sq, .int .i64 1, .string acct, .string ⟨#[]⟩, .int .i64 sum, .slice none 0 0, .int .i64 0, .int .i64 0, .string ⟨#[]⟩]) ∧ Fr No w w' := by
  have hb := Blk.new w 35 #[.int .i64 cl, .int .i64 sq, .int .i64 1, .string acct, .string peer, .int .i64 sum, .slice vA vn vc, .int .i64 per, .int .i64 hold, .string note]
  go_enter Tryz.func78, Tryz.ntmps78
  go_wp2
  have h1 := (Blk.new (w.alloc (.cells #[.int .i64 cl, .int .i64 sq, .int .i64 1, .string acct, .string peer, .int .i64 sum, .slice vA vn vc, .int .i64 per, .int .i64 hold, .string note] 35)) 35 #[.int .i64 cl, .int .i64 sq, .int .i64 1, .string acct, .string ⟨#[]⟩, .int .i64 sum, .slice none 0 0, .int .i64 0, .int .i64 0, .string ⟨#[]⟩]).alloc (.cells #[.int .i64 cl, .int .i64 sq, .int .i64 1, .string acct, .string ⟨#[]⟩, .int .i64 sum, .slice none 0 0, .int .i64 0, .int .i64 0, .string ⟨#[]⟩] 35)
  rw [World.size_alloc] at h1
  have hf : Fr No w (((w.alloc (.cells #[.int .i64 cl, .int .i64 sq, .int .i64 1, .string acct, .string peer, .int .i64 sum, .slice vA vn vc, .int .i64 per, .int .i64 hold, .string note] 35)).alloc (.cells #[.int .i64 cl, .int .i64 sq, .int .i64 1, .string acct, .string ⟨#[]⟩, .int .i64 sum, .slice none 0 0, .int .i64 0, .int .i64 0, .string ⟨#[]⟩] 35)).alloc (.cells #[.int .i64 cl, .int .i64 sq, .int .i64 1, .string acct, .string ⟨#[]⟩, .int .i64 sum, .slice none 0 0, .int .i64 0, .int .i64 0, .string ⟨#[]⟩] 35)) := (((Fr.refl _ _).alloc _).alloc _).alloc _
  generalize (((w.alloc (.cells #[.int .i64 cl, .int .i64 sq, .int .i64 1, .string acct, .string peer, .int .i64 sum, .slice vA vn vc, .int .i64 per, .int .i64 hold, .string note] 35)).alloc (.cells #[.int .i64 cl, .int .i64 sq, .int .i64 1, .string acct, .string ⟨#[]⟩, .int .i64 sum, .slice none 0 0, .int .i64 0, .int .i64 0, .string ⟨#[]⟩] 35)).alloc (.cells #[.int .i64 cl, .int .i64 sq, .int .i64 1, .string acct, .string ⟨#[]⟩, .int .i64 sum, .slice none 0 0, .int .i64 0, .int .i64 0, .string ⟨#[]⟩] 35)) = w4 at *
  have d0 := h1.cell 0
  have d1 := h1.cell 1
  have d2 := h1.cell 2
  have d3 := h1.cell 3
  have d4 := h1.cell 4
  have d5 := h1.cell 5
  have d6 := h1.cell 6
  have d7 := h1.cell 7
  have d8 := h1.cell 8
  have d9 := h1.cell 9
  simp only [List.getElem?_toArray, List.getElem?_cons_zero, List.getElem?_cons_succ] at d0 d1 d2 d3 d4 d5 d6 d7 d8 d9
  refine bodyPost_ret (v := .agg #[.int .i64 cl, .int .i64 sq, .int .i64 1, .string acct, .string ⟨#[]⟩, .int .i64 sum, .slice none 0 0, .int .i64 0, .int .i64 0, .string ⟨#[]⟩]) (by simp [results, Tryz.results78, go_sem, d0, d1, d2, d3, d4, d5, d6, d7, d8, d9]) rfl ?_
  exact ⟨rfl, hf⟩
set_option maxRecDepth 100000 in
set_option maxHeartbeats 8000000 in
theorem bare_2 (cl sq : Int) (acct peer : ByteArray) (sum : Int) (vA : Option Addr) (vn vc : Nat) (per hold : Int) (note : ByteArray) (w : World) :
    Calls Tryz.prog 78 #[.agg #[.int .i64 cl, .int .i64 sq, .int .i64 2, .string acct, .string peer, .int .i64 sum, .slice vA vn vc, .int .i64 per, .int .i64 hold, .string note]] w fun e w' => e = .returned (.agg #[.int .i64 cl, .int .i64 sq, .int .i64 2, .string ⟨#[]⟩, .string ⟨#[]⟩, .int .i64 0, .slice vA vn vc, .int .i64 per, .int .i64 0, .string note]) ∧ Fr No w w' := by
  have hb := Blk.new w 35 #[.int .i64 cl, .int .i64 sq, .int .i64 2, .string acct, .string peer, .int .i64 sum, .slice vA vn vc, .int .i64 per, .int .i64 hold, .string note]
  go_enter Tryz.func78, Tryz.ntmps78
  go_wp2
  have h1 := (Blk.new (w.alloc (.cells #[.int .i64 cl, .int .i64 sq, .int .i64 2, .string acct, .string peer, .int .i64 sum, .slice vA vn vc, .int .i64 per, .int .i64 hold, .string note] 35)) 35 #[.int .i64 cl, .int .i64 sq, .int .i64 2, .string ⟨#[]⟩, .string ⟨#[]⟩, .int .i64 0, .slice vA vn vc, .int .i64 per, .int .i64 0, .string note]).alloc (.cells #[.int .i64 cl, .int .i64 sq, .int .i64 2, .string ⟨#[]⟩, .string ⟨#[]⟩, .int .i64 0, .slice vA vn vc, .int .i64 per, .int .i64 0, .string note] 35)
  rw [World.size_alloc] at h1
  have hf : Fr No w (((w.alloc (.cells #[.int .i64 cl, .int .i64 sq, .int .i64 2, .string acct, .string peer, .int .i64 sum, .slice vA vn vc, .int .i64 per, .int .i64 hold, .string note] 35)).alloc (.cells #[.int .i64 cl, .int .i64 sq, .int .i64 2, .string ⟨#[]⟩, .string ⟨#[]⟩, .int .i64 0, .slice vA vn vc, .int .i64 per, .int .i64 0, .string note] 35)).alloc (.cells #[.int .i64 cl, .int .i64 sq, .int .i64 2, .string ⟨#[]⟩, .string ⟨#[]⟩, .int .i64 0, .slice vA vn vc, .int .i64 per, .int .i64 0, .string note] 35)) := (((Fr.refl _ _).alloc _).alloc _).alloc _
  generalize (((w.alloc (.cells #[.int .i64 cl, .int .i64 sq, .int .i64 2, .string acct, .string peer, .int .i64 sum, .slice vA vn vc, .int .i64 per, .int .i64 hold, .string note] 35)).alloc (.cells #[.int .i64 cl, .int .i64 sq, .int .i64 2, .string ⟨#[]⟩, .string ⟨#[]⟩, .int .i64 0, .slice vA vn vc, .int .i64 per, .int .i64 0, .string note] 35)).alloc (.cells #[.int .i64 cl, .int .i64 sq, .int .i64 2, .string ⟨#[]⟩, .string ⟨#[]⟩, .int .i64 0, .slice vA vn vc, .int .i64 per, .int .i64 0, .string note] 35)) = w4 at *
  have d0 := h1.cell 0
  have d1 := h1.cell 1
  have d2 := h1.cell 2
  have d3 := h1.cell 3
  have d4 := h1.cell 4
  have d5 := h1.cell 5
  have d6 := h1.cell 6
  have d7 := h1.cell 7
  have d8 := h1.cell 8
  have d9 := h1.cell 9
  simp only [List.getElem?_toArray, List.getElem?_cons_zero, List.getElem?_cons_succ] at d0 d1 d2 d3 d4 d5 d6 d7 d8 d9
  refine bodyPost_ret (v := .agg #[.int .i64 cl, .int .i64 sq, .int .i64 2, .string ⟨#[]⟩, .string ⟨#[]⟩, .int .i64 0, .slice vA vn vc, .int .i64 per, .int .i64 0, .string note]) (by simp [results, Tryz.results78, go_sem, d0, d1, d2, d3, d4, d5, d6, d7, d8, d9]) rfl ?_
  exact ⟨rfl, hf⟩
set_option maxRecDepth 100000 in
set_option maxHeartbeats 8000000 in
theorem bare_3 (cl sq : Int) (acct peer : ByteArray) (sum : Int) (vA : Option Addr) (vn vc : Nat) (per hold : Int) (note : ByteArray) (w : World) :
    Calls Tryz.prog 78 #[.agg #[.int .i64 cl, .int .i64 sq, .int .i64 3, .string acct, .string peer, .int .i64 sum, .slice vA vn vc, .int .i64 per, .int .i64 hold, .string note]] w fun e w' => e = .returned (.agg #[.int .i64 cl, .int .i64 sq, .int .i64 3, .string acct, .string ⟨#[]⟩, .int .i64 sum, .slice none 0 0, .int .i64 0, .int .i64 0, .string ⟨#[]⟩]) ∧ Fr No w w' := by
  have hb := Blk.new w 35 #[.int .i64 cl, .int .i64 sq, .int .i64 3, .string acct, .string peer, .int .i64 sum, .slice vA vn vc, .int .i64 per, .int .i64 hold, .string note]
  go_enter Tryz.func78, Tryz.ntmps78
  go_wp2
  have h1 := (Blk.new (w.alloc (.cells #[.int .i64 cl, .int .i64 sq, .int .i64 3, .string acct, .string peer, .int .i64 sum, .slice vA vn vc, .int .i64 per, .int .i64 hold, .string note] 35)) 35 #[.int .i64 cl, .int .i64 sq, .int .i64 3, .string acct, .string ⟨#[]⟩, .int .i64 sum, .slice none 0 0, .int .i64 0, .int .i64 0, .string ⟨#[]⟩]).alloc (.cells #[.int .i64 cl, .int .i64 sq, .int .i64 3, .string acct, .string ⟨#[]⟩, .int .i64 sum, .slice none 0 0, .int .i64 0, .int .i64 0, .string ⟨#[]⟩] 35)
  rw [World.size_alloc] at h1
  have hf : Fr No w (((w.alloc (.cells #[.int .i64 cl, .int .i64 sq, .int .i64 3, .string acct, .string peer, .int .i64 sum, .slice vA vn vc, .int .i64 per, .int .i64 hold, .string note] 35)).alloc (.cells #[.int .i64 cl, .int .i64 sq, .int .i64 3, .string acct, .string ⟨#[]⟩, .int .i64 sum, .slice none 0 0, .int .i64 0, .int .i64 0, .string ⟨#[]⟩] 35)).alloc (.cells #[.int .i64 cl, .int .i64 sq, .int .i64 3, .string acct, .string ⟨#[]⟩, .int .i64 sum, .slice none 0 0, .int .i64 0, .int .i64 0, .string ⟨#[]⟩] 35)) := (((Fr.refl _ _).alloc _).alloc _).alloc _
  generalize (((w.alloc (.cells #[.int .i64 cl, .int .i64 sq, .int .i64 3, .string acct, .string peer, .int .i64 sum, .slice vA vn vc, .int .i64 per, .int .i64 hold, .string note] 35)).alloc (.cells #[.int .i64 cl, .int .i64 sq, .int .i64 3, .string acct, .string ⟨#[]⟩, .int .i64 sum, .slice none 0 0, .int .i64 0, .int .i64 0, .string ⟨#[]⟩] 35)).alloc (.cells #[.int .i64 cl, .int .i64 sq, .int .i64 3, .string acct, .string ⟨#[]⟩, .int .i64 sum, .slice none 0 0, .int .i64 0, .int .i64 0, .string ⟨#[]⟩] 35)) = w4 at *
  have d0 := h1.cell 0
  have d1 := h1.cell 1
  have d2 := h1.cell 2
  have d3 := h1.cell 3
  have d4 := h1.cell 4
  have d5 := h1.cell 5
  have d6 := h1.cell 6
  have d7 := h1.cell 7
  have d8 := h1.cell 8
  have d9 := h1.cell 9
  simp only [List.getElem?_toArray, List.getElem?_cons_zero, List.getElem?_cons_succ] at d0 d1 d2 d3 d4 d5 d6 d7 d8 d9
  refine bodyPost_ret (v := .agg #[.int .i64 cl, .int .i64 sq, .int .i64 3, .string acct, .string ⟨#[]⟩, .int .i64 sum, .slice none 0 0, .int .i64 0, .int .i64 0, .string ⟨#[]⟩]) (by simp [results, Tryz.results78, go_sem, d0, d1, d2, d3, d4, d5, d6, d7, d8, d9]) rfl ?_
  exact ⟨rfl, hf⟩
set_option maxRecDepth 100000 in
set_option maxHeartbeats 8000000 in
theorem bare_4 (cl sq : Int) (acct peer : ByteArray) (sum : Int) (vA : Option Addr) (vn vc : Nat) (per hold : Int) (note : ByteArray) (w : World) :
    Calls Tryz.prog 78 #[.agg #[.int .i64 cl, .int .i64 sq, .int .i64 4, .string acct, .string peer, .int .i64 sum, .slice vA vn vc, .int .i64 per, .int .i64 hold, .string note]] w fun e w' => e = .returned (.agg #[.int .i64 cl, .int .i64 sq, .int .i64 4, .string acct, .string peer, .int .i64 sum, .slice none 0 0, .int .i64 per, .int .i64 hold, .string ⟨#[]⟩]) ∧ Fr No w w' := by
  have hb := Blk.new w 35 #[.int .i64 cl, .int .i64 sq, .int .i64 4, .string acct, .string peer, .int .i64 sum, .slice vA vn vc, .int .i64 per, .int .i64 hold, .string note]
  go_enter Tryz.func78, Tryz.ntmps78
  go_wp2
  have h1 := (Blk.new (w.alloc (.cells #[.int .i64 cl, .int .i64 sq, .int .i64 4, .string acct, .string peer, .int .i64 sum, .slice vA vn vc, .int .i64 per, .int .i64 hold, .string note] 35)) 35 #[.int .i64 cl, .int .i64 sq, .int .i64 4, .string acct, .string peer, .int .i64 sum, .slice none 0 0, .int .i64 per, .int .i64 hold, .string ⟨#[]⟩]).alloc (.cells #[.int .i64 cl, .int .i64 sq, .int .i64 4, .string acct, .string peer, .int .i64 sum, .slice none 0 0, .int .i64 per, .int .i64 hold, .string ⟨#[]⟩] 35)
  rw [World.size_alloc] at h1
  have hf : Fr No w (((w.alloc (.cells #[.int .i64 cl, .int .i64 sq, .int .i64 4, .string acct, .string peer, .int .i64 sum, .slice vA vn vc, .int .i64 per, .int .i64 hold, .string note] 35)).alloc (.cells #[.int .i64 cl, .int .i64 sq, .int .i64 4, .string acct, .string peer, .int .i64 sum, .slice none 0 0, .int .i64 per, .int .i64 hold, .string ⟨#[]⟩] 35)).alloc (.cells #[.int .i64 cl, .int .i64 sq, .int .i64 4, .string acct, .string peer, .int .i64 sum, .slice none 0 0, .int .i64 per, .int .i64 hold, .string ⟨#[]⟩] 35)) := (((Fr.refl _ _).alloc _).alloc _).alloc _
  generalize (((w.alloc (.cells #[.int .i64 cl, .int .i64 sq, .int .i64 4, .string acct, .string peer, .int .i64 sum, .slice vA vn vc, .int .i64 per, .int .i64 hold, .string note] 35)).alloc (.cells #[.int .i64 cl, .int .i64 sq, .int .i64 4, .string acct, .string peer, .int .i64 sum, .slice none 0 0, .int .i64 per, .int .i64 hold, .string ⟨#[]⟩] 35)).alloc (.cells #[.int .i64 cl, .int .i64 sq, .int .i64 4, .string acct, .string peer, .int .i64 sum, .slice none 0 0, .int .i64 per, .int .i64 hold, .string ⟨#[]⟩] 35)) = w4 at *
  have d0 := h1.cell 0
  have d1 := h1.cell 1
  have d2 := h1.cell 2
  have d3 := h1.cell 3
  have d4 := h1.cell 4
  have d5 := h1.cell 5
  have d6 := h1.cell 6
  have d7 := h1.cell 7
  have d8 := h1.cell 8
  have d9 := h1.cell 9
  simp only [List.getElem?_toArray, List.getElem?_cons_zero, List.getElem?_cons_succ] at d0 d1 d2 d3 d4 d5 d6 d7 d8 d9
  refine bodyPost_ret (v := .agg #[.int .i64 cl, .int .i64 sq, .int .i64 4, .string acct, .string peer, .int .i64 sum, .slice none 0 0, .int .i64 per, .int .i64 hold, .string ⟨#[]⟩]) (by simp [results, Tryz.results78, go_sem, d0, d1, d2, d3, d4, d5, d6, d7, d8, d9]) rfl ?_
  exact ⟨rfl, hf⟩
set_option maxRecDepth 100000 in
set_option maxHeartbeats 8000000 in
theorem bare_5 (cl sq : Int) (acct peer : ByteArray) (sum : Int) (vA : Option Addr) (vn vc : Nat) (per hold : Int) (note : ByteArray) (w : World) :
    Calls Tryz.prog 78 #[.agg #[.int .i64 cl, .int .i64 sq, .int .i64 5, .string acct, .string peer, .int .i64 sum, .slice vA vn vc, .int .i64 per, .int .i64 hold, .string note]] w fun e w' => e = .returned (.agg #[.int .i64 cl, .int .i64 sq, .int .i64 5, .string acct, .string ⟨#[]⟩, .int .i64 0, .slice none 0 0, .int .i64 0, .int .i64 hold, .string ⟨#[]⟩]) ∧ Fr No w w' := by
  have hb := Blk.new w 35 #[.int .i64 cl, .int .i64 sq, .int .i64 5, .string acct, .string peer, .int .i64 sum, .slice vA vn vc, .int .i64 per, .int .i64 hold, .string note]
  go_enter Tryz.func78, Tryz.ntmps78
  go_wp2
  have h1 := (Blk.new (w.alloc (.cells #[.int .i64 cl, .int .i64 sq, .int .i64 5, .string acct, .string peer, .int .i64 sum, .slice vA vn vc, .int .i64 per, .int .i64 hold, .string note] 35)) 35 #[.int .i64 cl, .int .i64 sq, .int .i64 5, .string acct, .string ⟨#[]⟩, .int .i64 0, .slice none 0 0, .int .i64 0, .int .i64 hold, .string ⟨#[]⟩]).alloc (.cells #[.int .i64 cl, .int .i64 sq, .int .i64 5, .string acct, .string ⟨#[]⟩, .int .i64 0, .slice none 0 0, .int .i64 0, .int .i64 hold, .string ⟨#[]⟩] 35)
  rw [World.size_alloc] at h1
  have hf : Fr No w (((w.alloc (.cells #[.int .i64 cl, .int .i64 sq, .int .i64 5, .string acct, .string peer, .int .i64 sum, .slice vA vn vc, .int .i64 per, .int .i64 hold, .string note] 35)).alloc (.cells #[.int .i64 cl, .int .i64 sq, .int .i64 5, .string acct, .string ⟨#[]⟩, .int .i64 0, .slice none 0 0, .int .i64 0, .int .i64 hold, .string ⟨#[]⟩] 35)).alloc (.cells #[.int .i64 cl, .int .i64 sq, .int .i64 5, .string acct, .string ⟨#[]⟩, .int .i64 0, .slice none 0 0, .int .i64 0, .int .i64 hold, .string ⟨#[]⟩] 35)) := (((Fr.refl _ _).alloc _).alloc _).alloc _
  generalize (((w.alloc (.cells #[.int .i64 cl, .int .i64 sq, .int .i64 5, .string acct, .string peer, .int .i64 sum, .slice vA vn vc, .int .i64 per, .int .i64 hold, .string note] 35)).alloc (.cells #[.int .i64 cl, .int .i64 sq, .int .i64 5, .string acct, .string ⟨#[]⟩, .int .i64 0, .slice none 0 0, .int .i64 0, .int .i64 hold, .string ⟨#[]⟩] 35)).alloc (.cells #[.int .i64 cl, .int .i64 sq, .int .i64 5, .string acct, .string ⟨#[]⟩, .int .i64 0, .slice none 0 0, .int .i64 0, .int .i64 hold, .string ⟨#[]⟩] 35)) = w4 at *
  have d0 := h1.cell 0
  have d1 := h1.cell 1
  have d2 := h1.cell 2
  have d3 := h1.cell 3
  have d4 := h1.cell 4
  have d5 := h1.cell 5
  have d6 := h1.cell 6
  have d7 := h1.cell 7
  have d8 := h1.cell 8
  have d9 := h1.cell 9
  simp only [List.getElem?_toArray, List.getElem?_cons_zero, List.getElem?_cons_succ] at d0 d1 d2 d3 d4 d5 d6 d7 d8 d9
  refine bodyPost_ret (v := .agg #[.int .i64 cl, .int .i64 sq, .int .i64 5, .string acct, .string ⟨#[]⟩, .int .i64 0, .slice none 0 0, .int .i64 0, .int .i64 hold, .string ⟨#[]⟩]) (by simp [results, Tryz.results78, go_sem, d0, d1, d2, d3, d4, d5, d6, d7, d8, d9]) rfl ?_
  exact ⟨rfl, hf⟩
set_option maxRecDepth 100000 in
set_option maxHeartbeats 8000000 in
theorem bare_6 (cl sq : Int) (acct peer : ByteArray) (sum : Int) (vA : Option Addr) (vn vc : Nat) (per hold : Int) (note : ByteArray) (w : World) :
    Calls Tryz.prog 78 #[.agg #[.int .i64 cl, .int .i64 sq, .int .i64 6, .string acct, .string peer, .int .i64 sum, .slice vA vn vc, .int .i64 per, .int .i64 hold, .string note]] w fun e w' => e = .returned (.agg #[.int .i64 cl, .int .i64 sq, .int .i64 6, .string ⟨#[]⟩, .string ⟨#[]⟩, .int .i64 0, .slice none 0 0, .int .i64 per, .int .i64 0, .string ⟨#[]⟩]) ∧ Fr No w w' := by
  have hb := Blk.new w 35 #[.int .i64 cl, .int .i64 sq, .int .i64 6, .string acct, .string peer, .int .i64 sum, .slice vA vn vc, .int .i64 per, .int .i64 hold, .string note]
  go_enter Tryz.func78, Tryz.ntmps78
  go_wp2
  have h1 := (Blk.new (w.alloc (.cells #[.int .i64 cl, .int .i64 sq, .int .i64 6, .string acct, .string peer, .int .i64 sum, .slice vA vn vc, .int .i64 per, .int .i64 hold, .string note] 35)) 35 #[.int .i64 cl, .int .i64 sq, .int .i64 6, .string ⟨#[]⟩, .string ⟨#[]⟩, .int .i64 0, .slice none 0 0, .int .i64 per, .int .i64 0, .string ⟨#[]⟩]).alloc (.cells #[.int .i64 cl, .int .i64 sq, .int .i64 6, .string ⟨#[]⟩, .string ⟨#[]⟩, .int .i64 0, .slice none 0 0, .int .i64 per, .int .i64 0, .string ⟨#[]⟩] 35)
  rw [World.size_alloc] at h1
  have hf : Fr No w (((w.alloc (.cells #[.int .i64 cl, .int .i64 sq, .int .i64 6, .string acct, .string peer, .int .i64 sum, .slice vA vn vc, .int .i64 per, .int .i64 hold, .string note] 35)).alloc (.cells #[.int .i64 cl, .int .i64 sq, .int .i64 6, .string ⟨#[]⟩, .string ⟨#[]⟩, .int .i64 0, .slice none 0 0, .int .i64 per, .int .i64 0, .string ⟨#[]⟩] 35)).alloc (.cells #[.int .i64 cl, .int .i64 sq, .int .i64 6, .string ⟨#[]⟩, .string ⟨#[]⟩, .int .i64 0, .slice none 0 0, .int .i64 per, .int .i64 0, .string ⟨#[]⟩] 35)) := (((Fr.refl _ _).alloc _).alloc _).alloc _
  generalize (((w.alloc (.cells #[.int .i64 cl, .int .i64 sq, .int .i64 6, .string acct, .string peer, .int .i64 sum, .slice vA vn vc, .int .i64 per, .int .i64 hold, .string note] 35)).alloc (.cells #[.int .i64 cl, .int .i64 sq, .int .i64 6, .string ⟨#[]⟩, .string ⟨#[]⟩, .int .i64 0, .slice none 0 0, .int .i64 per, .int .i64 0, .string ⟨#[]⟩] 35)).alloc (.cells #[.int .i64 cl, .int .i64 sq, .int .i64 6, .string ⟨#[]⟩, .string ⟨#[]⟩, .int .i64 0, .slice none 0 0, .int .i64 per, .int .i64 0, .string ⟨#[]⟩] 35)) = w4 at *
  have d0 := h1.cell 0
  have d1 := h1.cell 1
  have d2 := h1.cell 2
  have d3 := h1.cell 3
  have d4 := h1.cell 4
  have d5 := h1.cell 5
  have d6 := h1.cell 6
  have d7 := h1.cell 7
  have d8 := h1.cell 8
  have d9 := h1.cell 9
  simp only [List.getElem?_toArray, List.getElem?_cons_zero, List.getElem?_cons_succ] at d0 d1 d2 d3 d4 d5 d6 d7 d8 d9
  refine bodyPost_ret (v := .agg #[.int .i64 cl, .int .i64 sq, .int .i64 6, .string ⟨#[]⟩, .string ⟨#[]⟩, .int .i64 0, .slice none 0 0, .int .i64 per, .int .i64 0, .string ⟨#[]⟩]) (by simp [results, Tryz.results78, go_sem, d0, d1, d2, d3, d4, d5, d6, d7, d8, d9]) rfl ?_
  exact ⟨rfl, hf⟩
set_option maxRecDepth 100000 in
set_option maxHeartbeats 8000000 in
theorem bare_7 (cl sq : Int) (acct peer : ByteArray) (sum : Int) (vA : Option Addr) (vn vc : Nat) (per hold : Int) (note : ByteArray) (w : World) :
    Calls Tryz.prog 78 #[.agg #[.int .i64 cl, .int .i64 sq, .int .i64 7, .string acct, .string peer, .int .i64 sum, .slice vA vn vc, .int .i64 per, .int .i64 hold, .string note]] w fun e w' => e = .returned (.agg #[.int .i64 cl, .int .i64 sq, .int .i64 7, .string acct, .string ⟨#[]⟩, .int .i64 0, .slice none 0 0, .int .i64 0, .int .i64 0, .string ⟨#[]⟩]) ∧ Fr No w w' := by
  have hb := Blk.new w 35 #[.int .i64 cl, .int .i64 sq, .int .i64 7, .string acct, .string peer, .int .i64 sum, .slice vA vn vc, .int .i64 per, .int .i64 hold, .string note]
  go_enter Tryz.func78, Tryz.ntmps78
  go_wp2
  have h1 := (Blk.new (w.alloc (.cells #[.int .i64 cl, .int .i64 sq, .int .i64 7, .string acct, .string peer, .int .i64 sum, .slice vA vn vc, .int .i64 per, .int .i64 hold, .string note] 35)) 35 #[.int .i64 cl, .int .i64 sq, .int .i64 7, .string acct, .string ⟨#[]⟩, .int .i64 0, .slice none 0 0, .int .i64 0, .int .i64 0, .string ⟨#[]⟩]).alloc (.cells #[.int .i64 cl, .int .i64 sq, .int .i64 7, .string acct, .string ⟨#[]⟩, .int .i64 0, .slice none 0 0, .int .i64 0, .int .i64 0, .string ⟨#[]⟩] 35)
  rw [World.size_alloc] at h1
  have hf : Fr No w (((w.alloc (.cells #[.int .i64 cl, .int .i64 sq, .int .i64 7, .string acct, .string peer, .int .i64 sum, .slice vA vn vc, .int .i64 per, .int .i64 hold, .string note] 35)).alloc (.cells #[.int .i64 cl, .int .i64 sq, .int .i64 7, .string acct, .string ⟨#[]⟩, .int .i64 0, .slice none 0 0, .int .i64 0, .int .i64 0, .string ⟨#[]⟩] 35)).alloc (.cells #[.int .i64 cl, .int .i64 sq, .int .i64 7, .string acct, .string ⟨#[]⟩, .int .i64 0, .slice none 0 0, .int .i64 0, .int .i64 0, .string ⟨#[]⟩] 35)) := (((Fr.refl _ _).alloc _).alloc _).alloc _
  generalize (((w.alloc (.cells #[.int .i64 cl, .int .i64 sq, .int .i64 7, .string acct, .string peer, .int .i64 sum, .slice vA vn vc, .int .i64 per, .int .i64 hold, .string note] 35)).alloc (.cells #[.int .i64 cl, .int .i64 sq, .int .i64 7, .string acct, .string ⟨#[]⟩, .int .i64 0, .slice none 0 0, .int .i64 0, .int .i64 0, .string ⟨#[]⟩] 35)).alloc (.cells #[.int .i64 cl, .int .i64 sq, .int .i64 7, .string acct, .string ⟨#[]⟩, .int .i64 0, .slice none 0 0, .int .i64 0, .int .i64 0, .string ⟨#[]⟩] 35)) = w4 at *
  have d0 := h1.cell 0
  have d1 := h1.cell 1
  have d2 := h1.cell 2
  have d3 := h1.cell 3
  have d4 := h1.cell 4
  have d5 := h1.cell 5
  have d6 := h1.cell 6
  have d7 := h1.cell 7
  have d8 := h1.cell 8
  have d9 := h1.cell 9
  simp only [List.getElem?_toArray, List.getElem?_cons_zero, List.getElem?_cons_succ] at d0 d1 d2 d3 d4 d5 d6 d7 d8 d9
  refine bodyPost_ret (v := .agg #[.int .i64 cl, .int .i64 sq, .int .i64 7, .string acct, .string ⟨#[]⟩, .int .i64 0, .slice none 0 0, .int .i64 0, .int .i64 0, .string ⟨#[]⟩]) (by simp [results, Tryz.results78, go_sem, d0, d1, d2, d3, d4, d5, d6, d7, d8, d9]) rfl ?_
  exact ⟨rfl, hf⟩
theorem bare_any (o : Od) (vA : Option Addr) (vn vc : Nat) (w : World) (hk : 1 ≤ o.kd ∧ o.kd ≤ 7) : Calls Tryz.prog 78 #[o.val (.slice vA vn vc)] w fun e w' => e = .returned ((bareO o).val (bareV o.kd (.slice vA vn vc))) ∧ Fr No w w' := by
  obtain ⟨cl, sq, kd, acct, peer, sum, legs, per, hold, note⟩ := o
  simp only at hk
  have hc : kd = 1 ∨ kd = 2 ∨ kd = 3 ∨ kd = 4 ∨ kd = 5 ∨ kd = 6 ∨ kd = 7 := by omega
  rcases hc with rfl | rfl | rfl | rfl | rfl | rfl | rfl
  · exact bare_1 cl sq acct peer sum vA vn vc per hold note w
  · exact bare_2 cl sq acct peer sum vA vn vc per hold note w
  · exact bare_3 cl sq acct peer sum vA vn vc per hold note w
  · exact bare_4 cl sq acct peer sum vA vn vc per hold note w
  · exact bare_5 cl sq acct peer sum vA vn vc per hold note w
  · exact bare_6 cl sq acct peer sum vA vn vc per hold note w
  · exact bare_7 cl sq acct peer sum vA vn vc per hold note w
end Go.Proofs.YtjbeaoabhhaiiaaGreat

namespace Go.Proofs.YtjbeaoabhhaiiaaGreat
open Go.RowKit Go.My Go.Maps
set_option linter.unusedSimpArgs false
set_option linter.unusedVariables false
attribute [local go_sem ↓] Go.wp_at_zero Go.wp_at_succ

theorem right_nodupO {L : List Lg} (h : rightB L = true) : (L.map Lg.nm).Nodup := by
  unfold rightB at h
  simp only [Bool.and_eq_true, decide_eq_true_eq] at h
  exact h.2
theorem nodup_snocO {L : List Lg} {i : Nat} (hi : i < L.length) (h : ((L.take i).map Lg.nm).Nodup) (hn : ∀ x ∈ L.take i, x.nm ≠ L[i].nm) : ((L.take (i + 1)).map Lg.nm).Nodup := by
  rw [List.take_succ_eq_append_getElem hi, List.map_append, List.nodup_append]
  refine ⟨h, by simp, fun a ha b hb => ?_⟩
  obtain ⟨x, hx, rfl⟩ := List.mem_map.1 ha
  simp only [List.map_cons, List.map_nil, List.mem_singleton] at hb
  rw [hb]
  exact hn x hx
theorem not_nodupO {L : List Lg} {i k : Nat} (hi : i < L.length) (hk : k < i) (h : L[k].nm = L[i].nm) : rightB L = false := by
  cases hb : rightB L with
  | false => rfl
  | true =>
    have h1 := right_nodupO hb
    have h2 := List.pairwise_iff_getElem.1 h1 k i (by simp; omega) (by simpa using hi) hk
    simp [h] at h2
theorem right_endO {L : List Lg} (h1 : L.all okLg = true) (h2 : (L.map Lg.nm).Nodup) : rightB L = (decide (2 ≤ L.length) && decide (L.length ≤ 6)) := by
  unfold rightB
  have e : L.all (fun g => nameB g.nm && decide (g.sum ≠ 0)) = true := h1
  rw [e, decide_eq_true h2]
  simp


theorem bare_right {o : Od} (h : rightO o = true) : o = bareO o := by
  obtain ⟨cl, sq, kd, acct, peer, sum, legs, per, hold, note⟩ := o
  unfold rightO acctB peerB sumB legsB perB holdB noteB Od.an Od.pn at h
  simp only [Bool.and_eq_true, decide_eq_true_eq] at h
  obtain ⟨h1, h2, _, ha, hp, hs, hl, hpe, hh, hn⟩ := h
  have em : ∀ b : ByteArray, b.data.toList.isEmpty = true → b = ⟨#[]⟩ := fun b hb => bytes_ext (by rw [List.isEmpty_iff.1 hb])
  have hc : kd = 1 ∨ kd = 2 ∨ kd = 3 ∨ kd = 4 ∨ kd = 5 ∨ kd = 6 ∨ kd = 7 := by omega
  unfold bareO
  simp only [Od.mk.injEq, true_and]
  rcases hc with rfl | rfl | rfl | rfl | rfl | rfl | rfl <;> simp at ha hp hs hl hpe hh hn ⊢ <;>
    (repeat' apply And.intro) <;> first | trivial | assumption | (apply bytes_ext; simp [*]; done) | (simp_all; done) | omega
def RrRelO (w : World) (L : List Lg) (iv : Value) (wr : World) : Prop := ∃ i j : Nat, i ≤ L.length ∧ iv = .int .i64 i ∧ (L.take i).all okLg = true ∧ ((L.take i).map Lg.nm).Nodup ∧ wr = w.drewN j
def RkRelO (w : World) (L : List Lg) (i : Nat) (nm : List UInt8) (kv : Value) (wr : World) : Prop := ∃ k j : Nat, k ≤ i ∧ kv = .int .i64 k ∧ (∀ x ∈ L.take k, x.nm ≠ nm) ∧ wr = w.drewN j

set_option maxRecDepth 100000 in
set_option maxHeartbeats 16000000 in
theorem refrightO_any (F : Nat → Prop) (o : Od) (v : Value) (w : World) (ho : o.ok) (hv : LgS w F v o.legs) (h100 : o.legs.length ≤ 100) :
    Calls Tryz.prog 52 #[o.val v] w fun e w' => e = .returned (.bool (rightO o)) ∧ Fr No w w' := by
  obtain ⟨cl, sq, kd, acct, peer, sum, legs, per, hold, note⟩ := o
  have hv0 := hv
  obtain ⟨A, c, rfl, hlc, hcm⟩ := hv0.form
  clear hv0
  obtain ⟨-, -, -, o1, o2, -, -, -, o3⟩ := ho
  simp only at hlc hv h100 o1 o2 o3
  have hp := Blk.new w 35 #[.int .i64 cl, .int .i64 sq, .int .i64 kd, .string acct, .string peer, .int .i64 sum, .slice A legs.length c, .int .i64 per, .int .i64 hold, .string note]
  have hf0 : Fr No w (w.alloc (.cells #[.int .i64 cl, .int .i64 sq, .int .i64 kd, .string acct, .string peer, .int .i64 sum, .slice A legs.length c, .int .i64 per, .int .i64 hold, .string note] 35)) := (Fr.refl _ _).alloc _
  have hLV := hv.no hf0
  have HBR := Lib.hid (fun W (h : 1 ≤ kd ∧ kd ≤ 7) => bare_any ⟨cl, sq, kd, acct, peer, sum, legs, per, hold, note⟩ A legs.length c W h)
  have HLB : Hid (∀ W, LgS W F (.slice A legs.length c) legs → LgS W (fun _ => True) (bareV kd (.slice A legs.length c)) (bareO ⟨cl, sq, kd, acct, peer, sum, legs, per, hold, note⟩).legs) := fun W h => by
    unfold bareV bareO
    simp only
    split
    · obtain ⟨A', c', cells, e, hr, r⟩ := h
      exact ⟨A', c', cells, e, hr.more (fun _ _ => True.intro), r⟩
    · exact LgS_nil _ _
  have HSM : Hid (∀ W, LgS W F (.slice A legs.length c) legs → Calls Tryz.prog 77 #[Od.val ⟨cl, sq, kd, acct, peer, sum, legs, per, hold, note⟩ (.slice A legs.length c), (bareO ⟨cl, sq, kd, acct, peer, sum, legs, per, hold, note⟩).val (bareV kd (.slice A legs.length c))] W fun e w' => e = .returned (.bool (eqO ⟨cl, sq, kd, acct, peer, sum, legs, per, hold, note⟩ (bareO ⟨cl, sq, kd, acct, peer, sum, legs, per, hold, note⟩))) ∧ Fr No W w') := fun W h => refsameO_any _ _ ⟨cl, sq, kd, acct, peer, sum, legs, per, hold, note⟩ (bareO ⟨cl, sq, kd, acct, peer, sum, legs, per, hold, note⟩) _ _ W h (HLB.out W h)
  unfold Od.val at HBR HSM ⊢
  unfold Od.cs at HBR HSM ⊢
  simp only at HBR HSM ⊢
  generalize hbv : Value.agg [Value.int .i64 (bareO ⟨cl, sq, kd, acct, peer, sum, legs, per, hold, note⟩).cl, .int .i64 (bareO ⟨cl, sq, kd, acct, peer, sum, legs, per, hold, note⟩).sq, .int .i64 (bareO ⟨cl, sq, kd, acct, peer, sum, legs, per, hold, note⟩).kd, .string (bareO ⟨cl, sq, kd, acct, peer, sum, legs, per, hold, note⟩).acct, .string (bareO ⟨cl, sq, kd, acct, peer, sum, legs, per, hold, note⟩).peer, .int .i64 (bareO ⟨cl, sq, kd, acct, peer, sum, legs, per, hold, note⟩).sum, bareV kd (.slice A legs.length c), .int .i64 (bareO ⟨cl, sq, kd, acct, peer, sum, legs, per, hold, note⟩).per, .int .i64 (bareO ⟨cl, sq, kd, acct, peer, sum, legs, per, hold, note⟩).hold, .string (bareO ⟨cl, sq, kd, acct, peer, sum, legs, per, hold, note⟩).note].toArray = bv at *
  generalize hR : rightO ⟨cl, sq, kd, acct, peer, sum, legs, per, hold, note⟩ = res at *
  go_enter Tryz.func52, Tryz.ntmps52
  go_upto_region 1 with (fail)
  generalize w.alloc (.cells #[.int .i64 cl, .int .i64 sq, .int .i64 kd, .string acct, .string peer, .int .i64 sum, .slice A legs.length c, .int .i64 per, .int .i64 hold, .string note] 35) = w1 at *
  have x0 := hp.cell 0
  have x1 := hp.cell 1
  have x2 := hp.cell 2
  have x3 := hp.cell 3
  have x4 := hp.cell 4
  have x5 := hp.cell 5
  have x6 := hp.cell 6
  have x7 := hp.cell 7
  have x8 := hp.cell 8
  have x9 := hp.cell 9
  simp only [List.getElem?_toArray, List.getElem?_cons_zero, List.getElem?_cons_succ] at x0 x1 x2 x3 x4 x5 x6 x7 x8 x9
  have HF := Lib.hid hf0
  have HP := Lib.hid hp
  have HLV := Lib.hid hLV
  clear hf0 hp hv hLV hbv
  go_upto_region 2 with (fail)
  by_cases e1 : cl < 0
  · obtain rfl : res = false := by
      rw [← hR]
      unfold rightO acctB peerB sumB legsB perB holdB noteB Od.an Od.pn
      unfold idB
      simp [show ¬ (0 ≤ cl) by omega]
    clear hR
    go_quiet (fail)
    go_wp2
    go_ret
    exact ⟨rfl, HF.out.drewN _⟩
  by_cases e2 : 9 < cl
  · obtain rfl : res = false := by
      rw [← hR]
      unfold rightO acctB peerB sumB legsB perB holdB noteB Od.an Od.pn
      unfold idB
      simp [show ¬ (cl ≤ 9) by omega]
    clear hR
    go_quiet (fail)
    go_wp2
    go_ret
    exact ⟨rfl, HF.out.drewN _⟩
  by_cases e3 : sq < 1
  · obtain rfl : res = false := by
      rw [← hR]
      unfold rightO acctB peerB sumB legsB perB holdB noteB Od.an Od.pn
      unfold idB
      simp [show ¬ (1 ≤ sq) by omega]
    clear hR
    go_quiet (fail)
    go_wp2
    go_ret
    exact ⟨rfl, HF.out.drewN _⟩
  by_cases e4 : 999 < sq
  · obtain rfl : res = false := by
      rw [← hR]
      unfold rightO acctB peerB sumB legsB perB holdB noteB Od.an Od.pn
      unfold idB
      simp [show ¬ (sq ≤ 999) by omega]
    clear hR
    go_quiet (fail)
    go_wp2
    go_ret
    exact ⟨rfl, HF.out.drewN _⟩
  by_cases e5 : kd < 1
  · obtain rfl : res = false := by
      rw [← hR]
      unfold rightO acctB peerB sumB legsB perB holdB noteB Od.an Od.pn
      unfold idB
      simp [show ¬ (1 ≤ kd) by omega]
    clear hR
    go_quiet (fail)
    go_wp2
    go_ret
    exact ⟨rfl, HF.out.drewN _⟩
  by_cases e6 : 7 < kd
  · obtain rfl : res = false := by
      rw [← hR]
      unfold rightO acctB peerB sumB legsB perB holdB noteB Od.an Od.pn
      unfold idB
      simp [show ¬ (kd ≤ 7) by omega]
    clear hR
    go_quiet (fail)
    go_wp2
    go_ret
    exact ⟨rfl, HF.out.drewN _⟩
  have HID : Hid (idB cl sq = true) := by
    show _ = _
    unfold idB
    simp [show 0 ≤ cl by omega, show cl ≤ 9 by omega, show 1 ≤ sq by omega, show sq ≤ 999 by omega]
  have hc : kd = 1 ∨ kd = 2 ∨ kd = 3 ∨ kd = 4 ∨ kd = 5 ∨ kd = 6 ∨ kd = 7 := by omega
  have HBR2 := Lib.hid (fun W => HBR.out W ⟨by omega, by omega⟩)
  have hd : Fr No w1 w1.drew := (Fr.refl No w1).drew
  have HX : Hid (∀ U, Fr No w1 U → (fun Z => Fr No w1 Z ∧ Z.cell? ⟨w.heap.size, 0, none⟩ = some (.int .i64 cl) ∧ Z.cell? ⟨w.heap.size, 1, none⟩ = some (.int .i64 sq) ∧ Z.cell? ⟨w.heap.size, 2, none⟩ = some (.int .i64 kd) ∧ Z.cell? ⟨w.heap.size, 3, none⟩ = some (.string acct) ∧ Z.cell? ⟨w.heap.size, 4, none⟩ = some (.string peer) ∧ Z.cell? ⟨w.heap.size, 5, none⟩ = some (.int .i64 sum) ∧ Z.cell? ⟨w.heap.size, 6, none⟩ = some (.slice A legs.length c) ∧ Z.cell? ⟨w.heap.size, 7, none⟩ = some (.int .i64 per) ∧ Z.cell? ⟨w.heap.size, 8, none⟩ = some (.int .i64 hold) ∧ Z.cell? ⟨w.heap.size, 9, none⟩ = some (.string note)) U) := fun U hU => by
    have h := HP.out.fr hU (fun h => h)
    exact ⟨hU, h.cell 0, h.cell 1, h.cell 2, h.cell 3, h.cell 4, h.cell 5, h.cell 6, h.cell 7, h.cell 8, h.cell 9⟩
  have HLU : Hid (∀ U, Fr No w1 U → LgS U F (.slice A legs.length c) legs) := fun U hU => HLV.out.no hU
  clear HBR HLB
  cases hq : eqO ⟨cl, sq, kd, acct, peer, sum, legs, per, hold, note⟩ (bareO ⟨cl, sq, kd, acct, peer, sum, legs, per, hold, note⟩) with
  | false =>
    rw [hq] at HSM
    obtain rfl : res = false := by
      rw [← hR]
      cases hr : rightO ⟨cl, sq, kd, acct, peer, sum, legs, per, hold, note⟩ with
      | false => rfl
      | true =>
        have h2 := (eqO_iff _ _).2 (bare_right hr)
        rw [hq] at h2
        cases h2
    clear hR hq hc
    go_region_held3 (fun Z => Fr No w1 Z ∧ Z.cell? ⟨w.heap.size, 0, none⟩ = some (.int .i64 cl) ∧ Z.cell? ⟨w.heap.size, 1, none⟩ = some (.int .i64 sq) ∧ Z.cell? ⟨w.heap.size, 2, none⟩ = some (.int .i64 kd) ∧ Z.cell? ⟨w.heap.size, 3, none⟩ = some (.string acct) ∧ Z.cell? ⟨w.heap.size, 4, none⟩ = some (.string peer) ∧ Z.cell? ⟨w.heap.size, 5, none⟩ = some (.int .i64 sum) ∧ Z.cell? ⟨w.heap.size, 6, none⟩ = some (.slice A legs.length c) ∧ Z.cell? ⟨w.heap.size, 7, none⟩ = some (.int .i64 per) ∧ Z.cell? ⟨w.heap.size, 8, none⟩ = some (.int .i64 hold) ∧ Z.cell? ⟨w.heap.size, 9, none⟩ = some (.string note))
      (first | (refine HX.out _ ?_; with_reducible assumption))
      (first
        | (go_at_call 78; with_reducible refine (HBR2.out _).mono ?_; rintro e wA ⟨rfl, hf1⟩; have hg1 := Fr.trans hd hf1; have hl1 := HLU.out _ hg1)
        | (go_at_call 77; with_reducible refine (HSM.out _ hl1).mono ?_; rintro e wB ⟨rfl, hf2⟩; have hg2 := Fr.trans hg1 hf2))
    go_wp2
    go_ret
    exact ⟨rfl, HF.out.trans hg2⟩
  | true =>
    rw [hq] at HSM
    have HEQ := Lib.hid ((eqO_iff _ _).1 hq)
    clear hq
    go_region_held3 (fun Z => Fr No w1 Z ∧ Z.cell? ⟨w.heap.size, 0, none⟩ = some (.int .i64 cl) ∧ Z.cell? ⟨w.heap.size, 1, none⟩ = some (.int .i64 sq) ∧ Z.cell? ⟨w.heap.size, 2, none⟩ = some (.int .i64 kd) ∧ Z.cell? ⟨w.heap.size, 3, none⟩ = some (.string acct) ∧ Z.cell? ⟨w.heap.size, 4, none⟩ = some (.string peer) ∧ Z.cell? ⟨w.heap.size, 5, none⟩ = some (.int .i64 sum) ∧ Z.cell? ⟨w.heap.size, 6, none⟩ = some (.slice A legs.length c) ∧ Z.cell? ⟨w.heap.size, 7, none⟩ = some (.int .i64 per) ∧ Z.cell? ⟨w.heap.size, 8, none⟩ = some (.int .i64 hold) ∧ Z.cell? ⟨w.heap.size, 9, none⟩ = some (.string note))
      (first | (refine HX.out _ ?_; with_reducible assumption))
      (first
        | (go_at_call 78; with_reducible refine (HBR2.out _).mono ?_; rintro e wA ⟨rfl, hf1⟩; have hg1 := Fr.trans hd hf1; have hl1 := HLU.out _ hg1)
        | (go_at_call 77; with_reducible refine (HSM.out _ hl1).mono ?_; rintro e wB ⟨rfl, hf2⟩; have hg2 := Fr.trans hg1 hf2))
    have HF2 := Lib.hid (HF.out.trans hg2)
    have hp2 := HP.out.fr hg2 (fun h => h)
    have HL2 := Lib.hid (HLU.out _ hg2)
    clear HX HLU HSM HBR2 hf1 hf2 hg1 hg2 hl1 hd HP HF HLV x0 x1 x2 x3 x4 x5 x6 x7 x8 x9
    rcases hc with rfl | rfl | rfl | rfl | rfl | rfl | rfl
    · obtain rfl : peer = ⟨#[]⟩ := (congrArg Od.peer HEQ.out).trans (by simp [bareO])
      obtain rfl : legs = [] := (congrArg Od.legs HEQ.out).trans (by simp [bareO])
      obtain rfl : per = 0 := (congrArg Od.per HEQ.out).trans (by simp [bareO])
      obtain rfl : hold = 0 := (congrArg Od.hold HEQ.out).trans (by simp [bareO])
      obtain rfl : note = ⟨#[]⟩ := (congrArg Od.note HEQ.out).trans (by simp [bareO])
      have x0 := hp2.cell 0
      have x1 := hp2.cell 1
      have x2 := hp2.cell 2
      have x3 := hp2.cell 3
      have x4 := hp2.cell 4
      have x5 := hp2.cell 5
      have x6 := hp2.cell 6
      have x7 := hp2.cell 7
      have x8 := hp2.cell 8
      have x9 := hp2.cell 9
      simp only [List.getElem?_toArray, List.getElem?_cons_zero, List.getElem?_cons_succ] at x0 x1 x2 x3 x4 x5 x6 x7 x8 x9
      clear HEQ hp2
      have HN := Lib.hid (fun W => refname_any acct W o1)
      cases hn : nameB acct.data.toList with
      | false =>
        rw [hn] at HN
        obtain rfl : res = false := by
          rw [← hR]
          unfold rightO acctB peerB sumB legsB perB holdB noteB Od.an Od.pn
          simp [HID.out, hn]
        clear hR
        go_wp2_with fail
        refine (HN.out _).mono ?_
        rintro e u3 ⟨rfl, rfl⟩
        go_wp2
        go_ret
        exact ⟨rfl, HF2.out⟩
      | true =>
        rw [hn] at HN
        by_cases q0 : sum < 0
        · obtain rfl : res = false := by
            rw [← hR]
            unfold rightO acctB peerB sumB legsB perB holdB noteB Od.an Od.pn
            simp [HID.out, hn, show ¬ (0 ≤ sum) by omega]
          clear hR
          go_wp2_with fail
          refine (HN.out _).mono ?_
          rintro e u3 ⟨rfl, rfl⟩
          go_wp2
          go_ret
          exact ⟨rfl, HF2.out⟩
        obtain rfl : res = true := by
          rw [← hR]
          unfold rightO acctB peerB sumB legsB perB holdB noteB Od.an Od.pn
          simp [HID.out, hn, show 0 ≤ sum by omega]
        clear hR
        go_wp2_with fail
        refine (HN.out _).mono ?_
        rintro e u3 ⟨rfl, rfl⟩
        go_wp2
        go_ret
        exact ⟨rfl, HF2.out⟩
    · obtain rfl : acct = ⟨#[]⟩ := (congrArg Od.acct HEQ.out).trans (by simp [bareO])
      obtain rfl : peer = ⟨#[]⟩ := (congrArg Od.peer HEQ.out).trans (by simp [bareO])
      obtain rfl : sum = 0 := (congrArg Od.sum HEQ.out).trans (by simp [bareO])
      obtain rfl : hold = 0 := (congrArg Od.hold HEQ.out).trans (by simp [bareO])
      have x0 := hp2.cell 0
      have x1 := hp2.cell 1
      have x2 := hp2.cell 2
      have x3 := hp2.cell 3
      have x4 := hp2.cell 4
      have x5 := hp2.cell 5
      have x6 := hp2.cell 6
      have x7 := hp2.cell 7
      have x8 := hp2.cell 8
      have x9 := hp2.cell 9
      simp only [List.getElem?_toArray, List.getElem?_cons_zero, List.getElem?_cons_succ] at x0 x1 x2 x3 x4 x5 x6 x7 x8 x9
      clear HEQ hp2
      by_cases q0 : per < 1
      · obtain rfl : res = false := by
          rw [← hR]
          unfold rightO acctB peerB sumB legsB perB holdB noteB Od.an Od.pn
          simp [HID.out, show ¬ (1 ≤ per) by omega]
        clear hR
        go_wp2
        go_ret
        exact ⟨rfl, HF2.out⟩
      by_cases q1 : 1000 < per
      · obtain rfl : res = false := by
          rw [← hR]
          unfold rightO acctB peerB sumB legsB perB holdB noteB Od.an Od.pn
          simp [HID.out, show 1 ≤ per by omega, show ¬ (per ≤ 1000) by omega]
        clear hR
        go_wp2
        go_ret
        exact ⟨rfl, HF2.out⟩
      have HRES : Hid (rightB legs = false → res = false) := fun h => by
        rw [← hR]
        unfold rightO acctB peerB sumB legsB perB holdB noteB Od.an Od.pn
        simp [h]
      have HREST : Hid (rightB legs = true → note.data.toList.length ≤ 20 → res = true) := fun h h2 => by
        have h2' : note.size ≤ 20 := by have e : note.size = note.data.toList.length := rfl; omega
        rw [← hR]
        unfold rightO acctB peerB sumB legsB perB holdB noteB Od.an Od.pn
        simp [HID.out, h, h2', show 1 ≤ per by omega, show per ≤ 1000 by omega] <;> simpa using h2
      have HRESN : Hid (¬ note.data.toList.length ≤ 20 → res = false) := fun h => by
        rw [← hR]
        unfold rightO acctB peerB sumB legsB perB holdB noteB Od.an Od.pn
        rw [decide_eq_false h]
        simp
      obtain ⟨A', c', cells, e0, hr, hE, _, _⟩ := HL2.out
      cases e0
      have HR := Lib.hid hr
      have HE := Lib.hid hE
      clear hr hE hR
      go_wp2_with fail
      go_loopw [5] (fun iv wr => RrRelO wB legs iv wr) (fun iv _ => legs.length - (intOf iv).toNat)
      case atStart => exact ⟨0, 0, Nat.zero_le _, rfl, rfl, List.nodup_nil, rfl⟩
      case round =>
        obtain ⟨i, j0, hi, rfl, hall, hnd, rfl⟩ := hrel
        have HALL := Lib.hid hall
        have HND := Lib.hid hnd
        clear hall hnd
        by_cases hil : i < legs.length
        · obtain ⟨ad, rfl, _, hok, q0, q1⟩ := lg_at HR.out HE.out i hil hil
          have HBAD : Hid (okLg legs[i] = false → rightB legs = false) := rightB_bad hil
          have HNX : Hid (okLg legs[i] = true → (legs.take (i + 1)).all okLg = true) := fun h => by
            rw [List.take_succ_eq_append_getElem hil, List.all_append, HALL.out]
            simp [h]
          have HSN : Hid ((∀ x ∈ legs.take i, x.nm ≠ legs[i].nm) → ((legs.take (i + 1)).map Lg.nm).Nodup) := nodup_snocO hil HND.out
          have HNN : Hid (∀ k (hk : k < i), legs[k].nm = legs[i].nm → rightB legs = false) := fun k hk h => not_nodupO hil hk h
          generalize hg : legs[i] = g at *
          obtain ⟨nm, sm⟩ := g
          unfold Lg.ok at hok
          simp only at q0 q1 hok
          obtain ⟨lo, hlo, hlo2⟩ : ∃ lo : List UInt8, nm = ⟨lo.toArray⟩ ∧ nm.data.toList = lo := ⟨nm.data.toList, by simp, rfl⟩
          have hN := refname_any nm (wB.drewN j0) hok.1
          unfold Lg.nm at HSN HNN
          unfold okLg Lg.nm at HBAD HNX
          simp only at HSN HNN HBAD HNX
          rw [hlo2] at hN HSN HNN HBAD HNX
          subst hlo
          have HN := Lib.hid hN
          clear hN hok hlo2 hg
          cases hnb : nameB lo with
          | false =>
            rw [hnb] at HN HBAD
            have HB : Hid (rightB legs = false) := HBAD.out rfl
            clear hnb
            go_wp2_with fail
            refine HN.out.mono ?_
            rintro e w3 ⟨rfl, rfl⟩
            go_wp2
            go_ret
            exact ⟨by rw [HRES.out HB.out]; rfl, HF2.out.drewN _⟩
          | true =>
            rw [hnb] at HN HBAD HNX
            clear hnb
            by_cases hs0 : sm = 0
            · subst hs0
              have HB : Hid (rightB legs = false) := HBAD.out rfl
              go_wp2_with fail
              refine HN.out.mono ?_
              rintro e w3 ⟨rfl, rfl⟩
              go_wp2
              go_ret
              exact ⟨by rw [HRES.out HB.out]; rfl, HF2.out.drewN _⟩
            · have hz : (sm == 0) = false := beq_eq_false_iff_ne.2 hs0
              have HA : Hid ((legs.take (i + 1)).all okLg = true) := HNX.out (by simp [hs0])
              clear hs0 HBAD HNX
              go_wp2_with fail
              refine HN.out.mono ?_
              rintro e w3 ⟨rfl, rfl⟩
              go_wp2_with fail
              go_loopw [6] (fun kv ws => RkRelO wB legs i lo kv ws) (fun kv _ => i - (intOf kv).toNat)
              case atStart => exact ⟨0, j0, Nat.zero_le _, rfl, fun x hx => by simp at hx, rfl⟩
              case round =>
                obtain ⟨k, j1, hk, rfl, hno, rfl⟩ := hrel
                by_cases hki : k < i
                · obtain ⟨bd, hbd, _, hok2, p0, p1⟩ := lg_at HR.out HE.out k (by omega) (by omega)
                  injection hbd with hbd
                  subst hbd
                  have HTK : Hid (legs.take (k + 1) = legs.take k ++ [legs[k]]) := List.take_succ_eq_append_getElem (by omega)
                  have HNK := Lib.hid (HNN.out k hki)
                  have HNO := Lib.hid hno
                  generalize legs[k] = h at *
                  obtain ⟨nk, sk⟩ := h
                  simp only at p0 p1
                  obtain ⟨lk, hlk, hlk2⟩ : ∃ lo : List UInt8, nk = ⟨lo.toArray⟩ ∧ nk.data.toList = lo := ⟨nk.data.toList, by simp, rfl⟩
                  simp only [hlk2] at HNK
                  subst hlk
                  clear hno hok2 hlk2 HN HNN
                  by_cases hn : lk = lo
                  · subst hn
                    have HB : Hid (rightB legs = false) := HNK.out rfl
                    go_wp2
                    go_quiet (fail)
                    go_wp2
                    go_ret
                    exact ⟨by rw [HRES.out HB.out]; rfl, (HF2.out.drewN _).drewN _⟩
                  · have hz1 : (lk == lo) = false := beq_eq_false_iff_ne.2 hn
                    have hz2 : ((⟨lk.toArray⟩ : ByteArray).toList == (⟨lo.toArray⟩ : ByteArray).toList) = false := by rw [ByteArray.toList_eq, ByteArray.toList_eq]; exact hz1
                    have HNE := Lib.hid hn
                    clear hn
                    go_wp2
                    go_quiet (fail)
                    go_wp2
                    go_roundw
                    case rel =>
                      refine ⟨k + 1, _, by omega, by go_num, fun x hx => ?_, rfl⟩
                      rw [HTK.out, List.mem_append, List.mem_singleton] at hx
                      rcases hx with hx | hx
                      · exact HNO.out x hx
                      · rw [hx]; exact HNE.out
                    case measure => simp [intOf]; omega
                · obtain rfl : k = i := by omega
                  have HD : Hid (((legs.take (k + 1)).map Lg.nm).Nodup) := HSN.out hno
                  clear hno
                  go_wp2
                  go_roundw
                  case rel => exact ⟨k + 1, _, by omega, by go_num, HA.out, HD.out, rfl⟩
                  case measure => simp [intOf]; omega
        · obtain rfl : i = legs.length := by omega
          have HEN : Hid (rightB legs = (decide (2 ≤ legs.length) && decide (legs.length ≤ 6))) := by
            have h1 := HALL.out
            have h2 := HND.out
            rw [List.take_length] at h1 h2
            exact right_endO h1 h2
          have HX9 : Hid (rightB legs = true → note.data.toList.length ≤ 20 → res = true) := HREST.out
          have HX8 : Hid (¬ note.data.toList.length ≤ 20 → res = false) := HRESN.out
          have hns : note.size = note.data.toList.length := rfl
          by_cases h2 : 2 ≤ legs.length
          · by_cases h6 : legs.length ≤ 6
            · have HB : Hid (rightB legs = true) := by show _ = _; rw [HEN.out, decide_eq_true h2, decide_eq_true h6]; rfl
              have h2' : decide ((2 : Int) ≤ (legs.length : Int)) = true := decide_eq_true (by omega)
              have h6' : decide ((legs.length : Int) ≤ 6) = true := decide_eq_true (by omega)
              by_cases h20 : note.data.toList.length ≤ 20
              · obtain rfl : res = true := HX9.out HB.out h20
                have hsz : decide ((note.size : Int) ≤ 20) = true := decide_eq_true (by omega)
                clear hns h20 h2 h6
                go_wp2
                go_ret
                exact ⟨rfl, HF2.out.drewN _⟩
              · obtain rfl : res = false := HX8.out h20
                have hsz : decide ((note.size : Int) ≤ 20) = false := decide_eq_false (by omega)
                clear hns h20 h2 h6
                go_wp2
                go_ret
                exact ⟨rfl, HF2.out.drewN _⟩
            · have HB : Hid (rightB legs = false) := by show _ = _; rw [HEN.out, decide_eq_false h6]; simp
              obtain rfl : res = false := HRES.out HB.out
              have h2' : decide ((2 : Int) ≤ (legs.length : Int)) = true := decide_eq_true (by omega)
              have h6' : decide ((legs.length : Int) ≤ 6) = false := decide_eq_false (by omega)
              go_wp2
              go_ret
              exact ⟨rfl, HF2.out.drewN _⟩
          · have HB : Hid (rightB legs = false) := by show _ = _; rw [HEN.out, decide_eq_false h2]; rfl
            obtain rfl : res = false := HRES.out HB.out
            have h2' : decide ((2 : Int) ≤ (legs.length : Int)) = false := decide_eq_false (by omega)
            go_wp2
            go_ret
            exact ⟨rfl, HF2.out.drewN _⟩
    · obtain rfl : peer = ⟨#[]⟩ := (congrArg Od.peer HEQ.out).trans (by simp [bareO])
      obtain rfl : legs = [] := (congrArg Od.legs HEQ.out).trans (by simp [bareO])
      obtain rfl : per = 0 := (congrArg Od.per HEQ.out).trans (by simp [bareO])
      obtain rfl : hold = 0 := (congrArg Od.hold HEQ.out).trans (by simp [bareO])
      obtain rfl : note = ⟨#[]⟩ := (congrArg Od.note HEQ.out).trans (by simp [bareO])
      have x0 := hp2.cell 0
      have x1 := hp2.cell 1
      have x2 := hp2.cell 2
      have x3 := hp2.cell 3
      have x4 := hp2.cell 4
      have x5 := hp2.cell 5
      have x6 := hp2.cell 6
      have x7 := hp2.cell 7
      have x8 := hp2.cell 8
      have x9 := hp2.cell 9
      simp only [List.getElem?_toArray, List.getElem?_cons_zero, List.getElem?_cons_succ] at x0 x1 x2 x3 x4 x5 x6 x7 x8 x9
      clear HEQ hp2
      have HN := Lib.hid (fun W => refname_any acct W o1)
      cases hn : nameB acct.data.toList with
      | false =>
        rw [hn] at HN
        obtain rfl : res = false := by
          rw [← hR]
          unfold rightO acctB peerB sumB legsB perB holdB noteB Od.an Od.pn
          simp [HID.out, hn]
        clear hR
        go_wp2_with fail
        refine (HN.out _).mono ?_
        rintro e u3 ⟨rfl, rfl⟩
        go_wp2
        go_ret
        exact ⟨rfl, HF2.out⟩
      | true =>
        rw [hn] at HN
        by_cases q0 : sum < 1
        · obtain rfl : res = false := by
            rw [← hR]
            unfold rightO acctB peerB sumB legsB perB holdB noteB Od.an Od.pn
            simp [HID.out, hn, show ¬ (1 ≤ sum) by omega]
          clear hR
          go_wp2_with fail
          refine (HN.out _).mono ?_
          rintro e u3 ⟨rfl, rfl⟩
          go_wp2
          go_ret
          exact ⟨rfl, HF2.out⟩
        obtain rfl : res = true := by
          rw [← hR]
          unfold rightO acctB peerB sumB legsB perB holdB noteB Od.an Od.pn
          simp [HID.out, hn, show 1 ≤ sum by omega]
        clear hR
        go_wp2_with fail
        refine (HN.out _).mono ?_
        rintro e u3 ⟨rfl, rfl⟩
        go_wp2
        go_ret
        exact ⟨rfl, HF2.out⟩
    · obtain rfl : legs = [] := (congrArg Od.legs HEQ.out).trans (by simp [bareO])
      obtain rfl : note = ⟨#[]⟩ := (congrArg Od.note HEQ.out).trans (by simp [bareO])
      have x0 := hp2.cell 0
      have x1 := hp2.cell 1
      have x2 := hp2.cell 2
      have x3 := hp2.cell 3
      have x4 := hp2.cell 4
      have x5 := hp2.cell 5
      have x6 := hp2.cell 6
      have x7 := hp2.cell 7
      have x8 := hp2.cell 8
      have x9 := hp2.cell 9
      simp only [List.getElem?_toArray, List.getElem?_cons_zero, List.getElem?_cons_succ] at x0 x1 x2 x3 x4 x5 x6 x7 x8 x9
      clear HEQ hp2
      have HN := Lib.hid (fun W => refname_any acct W o1)
      cases hn : nameB acct.data.toList with
      | false =>
        rw [hn] at HN
        obtain rfl : res = false := by
          rw [← hR]
          unfold rightO acctB peerB sumB legsB perB holdB noteB Od.an Od.pn
          simp [HID.out, hn]
        clear hR
        go_wp2_with fail
        refine (HN.out _).mono ?_
        rintro e u3 ⟨rfl, rfl⟩
        go_wp2
        go_ret
        exact ⟨rfl, HF2.out⟩
      | true =>
        rw [hn] at HN
        by_cases q0 : sum < 1
        · obtain rfl : res = false := by
            rw [← hR]
            unfold rightO acctB peerB sumB legsB perB holdB noteB Od.an Od.pn
            simp [HID.out, hn, show ¬ (1 ≤ sum) by omega]
          clear hR
          go_wp2_with fail
          refine (HN.out _).mono ?_
          rintro e u3 ⟨rfl, rfl⟩
          go_wp2
          go_ret
          exact ⟨rfl, HF2.out⟩
        by_cases q1 : per < 1
        · obtain rfl : res = false := by
            rw [← hR]
            unfold rightO acctB peerB sumB legsB perB holdB noteB Od.an Od.pn
            simp [HID.out, hn, show 1 ≤ sum by omega, show ¬ (1 ≤ per) by omega]
          clear hR
          go_wp2_with fail
          refine (HN.out _).mono ?_
          rintro e u3 ⟨rfl, rfl⟩
          go_wp2
          go_ret
          exact ⟨rfl, HF2.out⟩
        by_cases q2 : 1000 < per
        · obtain rfl : res = false := by
            rw [← hR]
            unfold rightO acctB peerB sumB legsB perB holdB noteB Od.an Od.pn
            simp [HID.out, hn, show 1 ≤ sum by omega, show 1 ≤ per by omega, show ¬ (per ≤ 1000) by omega]
          clear hR
          go_wp2_with fail
          refine (HN.out _).mono ?_
          rintro e u3 ⟨rfl, rfl⟩
          go_wp2
          go_ret
          exact ⟨rfl, HF2.out⟩
        by_cases q3 : hold < 1
        · obtain rfl : res = false := by
            rw [← hR]
            unfold rightO acctB peerB sumB legsB perB holdB noteB Od.an Od.pn
            simp [HID.out, hn, show 1 ≤ sum by omega, show 1 ≤ per by omega, show per ≤ 1000 by omega, show ¬ (1 ≤ hold) by omega]
          clear hR
          go_wp2_with fail
          refine (HN.out _).mono ?_
          rintro e u3 ⟨rfl, rfl⟩
          go_wp2
          go_ret
          exact ⟨rfl, HF2.out⟩
        by_cases q4 : 9999 < hold
        · obtain rfl : res = false := by
            rw [← hR]
            unfold rightO acctB peerB sumB legsB perB holdB noteB Od.an Od.pn
            simp [HID.out, hn, show 1 ≤ sum by omega, show 1 ≤ per by omega, show per ≤ 1000 by omega, show 1 ≤ hold by omega, show ¬ (hold ≤ 9999) by omega]
          clear hR
          go_wp2_with fail
          refine (HN.out _).mono ?_
          rintro e u3 ⟨rfl, rfl⟩
          go_wp2
          go_ret
          exact ⟨rfl, HF2.out⟩
        have HM := Lib.hid (fun W => refname_any peer W o2)
        cases hm : nameB peer.data.toList with
        | false =>
          rw [hm] at HM
          obtain rfl : res = false := by
            rw [← hR]
            unfold rightO acctB peerB sumB legsB perB holdB noteB Od.an Od.pn
            simp [HID.out, hn, show 1 ≤ sum by omega, show 1 ≤ per by omega, show per ≤ 1000 by omega, show 1 ≤ hold by omega, show hold ≤ 9999 by omega, hm]
          clear hR
          go_wp2_with fail
          refine (HN.out _).mono ?_
          rintro e u3 ⟨rfl, rfl⟩
          go_wp2_with fail
          refine (HM.out _).mono ?_
          rintro e u4 ⟨rfl, rfl⟩
          go_wp2
          go_ret
          exact ⟨rfl, HF2.out⟩
        | true =>
          rw [hm] at HM
          by_cases hpa : peer.data.toList = acct.data.toList
          · obtain rfl : res = false := by
              rw [← hR]
              unfold rightO acctB peerB sumB legsB perB holdB noteB Od.an Od.pn
              simp [HID.out, hn, show 1 ≤ sum by omega, show 1 ≤ per by omega, show per ≤ 1000 by omega, show 1 ≤ hold by omega, show hold ≤ 9999 by omega, hm, hpa]
            clear hR
            obtain rfl := bytes_ext hpa
            go_wp2_with fail
            refine (HN.out _).mono ?_
            rintro e u3 ⟨rfl, rfl⟩
            go_wp2_with fail
            refine (HM.out _).mono ?_
            rintro e u4 ⟨rfl, rfl⟩
            go_wp2
            go_ret
            exact ⟨rfl, HF2.out⟩
          · have hpd : ¬ peer.data = acct.data := fun e => hpa (by rw [e])
            obtain rfl : res = true := by
              rw [← hR]
              unfold rightO acctB peerB sumB legsB perB holdB noteB Od.an Od.pn
              simp [HID.out, hn, show 1 ≤ sum by omega, show 1 ≤ per by omega, show per ≤ 1000 by omega, show 1 ≤ hold by omega, show hold ≤ 9999 by omega, hm, hpa, hpd]
            have hz : (peer.toList == acct.toList) = false := by rw [ByteArray.toList_eq, ByteArray.toList_eq]; exact beq_eq_false_iff_ne.2 hpa
            clear hR
            go_wp2_with fail
            refine (HN.out _).mono ?_
            rintro e u3 ⟨rfl, rfl⟩
            go_wp2_with fail
            refine (HM.out _).mono ?_
            rintro e u4 ⟨rfl, rfl⟩
            go_wp2
            go_ret
            exact ⟨rfl, HF2.out⟩
    · obtain rfl : peer = ⟨#[]⟩ := (congrArg Od.peer HEQ.out).trans (by simp [bareO])
      obtain rfl : sum = 0 := (congrArg Od.sum HEQ.out).trans (by simp [bareO])
      obtain rfl : legs = [] := (congrArg Od.legs HEQ.out).trans (by simp [bareO])
      obtain rfl : per = 0 := (congrArg Od.per HEQ.out).trans (by simp [bareO])
      obtain rfl : note = ⟨#[]⟩ := (congrArg Od.note HEQ.out).trans (by simp [bareO])
      have x0 := hp2.cell 0
      have x1 := hp2.cell 1
      have x2 := hp2.cell 2
      have x3 := hp2.cell 3
      have x4 := hp2.cell 4
      have x5 := hp2.cell 5
      have x6 := hp2.cell 6
      have x7 := hp2.cell 7
      have x8 := hp2.cell 8
      have x9 := hp2.cell 9
      simp only [List.getElem?_toArray, List.getElem?_cons_zero, List.getElem?_cons_succ] at x0 x1 x2 x3 x4 x5 x6 x7 x8 x9
      clear HEQ hp2
      have HN := Lib.hid (fun W => refname_any acct W o1)
      cases hn : nameB acct.data.toList with
      | false =>
        rw [hn] at HN
        obtain rfl : res = false := by
          rw [← hR]
          unfold rightO acctB peerB sumB legsB perB holdB noteB Od.an Od.pn
          simp [HID.out, hn]
        clear hR
        go_wp2_with fail
        refine (HN.out _).mono ?_
        rintro e u3 ⟨rfl, rfl⟩
        go_wp2
        go_ret
        exact ⟨rfl, HF2.out⟩
      | true =>
        rw [hn] at HN
        by_cases q0 : hold < 1
        · obtain rfl : res = false := by
            rw [← hR]
            unfold rightO acctB peerB sumB legsB perB holdB noteB Od.an Od.pn
            simp [HID.out, hn, show ¬ (1 ≤ hold) by omega]
          clear hR
          go_wp2_with fail
          refine (HN.out _).mono ?_
          rintro e u3 ⟨rfl, rfl⟩
          go_wp2
          go_ret
          exact ⟨rfl, HF2.out⟩
        by_cases q1 : 9999 < hold
        · obtain rfl : res = false := by
            rw [← hR]
            unfold rightO acctB peerB sumB legsB perB holdB noteB Od.an Od.pn
            simp [HID.out, hn, show 1 ≤ hold by omega, show ¬ (hold ≤ 9999) by omega]
          clear hR
          go_wp2_with fail
          refine (HN.out _).mono ?_
          rintro e u3 ⟨rfl, rfl⟩
          go_wp2
          go_ret
          exact ⟨rfl, HF2.out⟩
        obtain rfl : res = true := by
          rw [← hR]
          unfold rightO acctB peerB sumB legsB perB holdB noteB Od.an Od.pn
          simp [HID.out, hn, show 1 ≤ hold by omega, show hold ≤ 9999 by omega]
        clear hR
        go_wp2_with fail
        refine (HN.out _).mono ?_
        rintro e u3 ⟨rfl, rfl⟩
        go_wp2
        go_ret
        exact ⟨rfl, HF2.out⟩
    · obtain rfl : acct = ⟨#[]⟩ := (congrArg Od.acct HEQ.out).trans (by simp [bareO])
      obtain rfl : peer = ⟨#[]⟩ := (congrArg Od.peer HEQ.out).trans (by simp [bareO])
      obtain rfl : sum = 0 := (congrArg Od.sum HEQ.out).trans (by simp [bareO])
      obtain rfl : legs = [] := (congrArg Od.legs HEQ.out).trans (by simp [bareO])
      obtain rfl : hold = 0 := (congrArg Od.hold HEQ.out).trans (by simp [bareO])
      obtain rfl : note = ⟨#[]⟩ := (congrArg Od.note HEQ.out).trans (by simp [bareO])
      have x0 := hp2.cell 0
      have x1 := hp2.cell 1
      have x2 := hp2.cell 2
      have x3 := hp2.cell 3
      have x4 := hp2.cell 4
      have x5 := hp2.cell 5
      have x6 := hp2.cell 6
      have x7 := hp2.cell 7
      have x8 := hp2.cell 8
      have x9 := hp2.cell 9
      simp only [List.getElem?_toArray, List.getElem?_cons_zero, List.getElem?_cons_succ] at x0 x1 x2 x3 x4 x5 x6 x7 x8 x9
      clear HEQ hp2
      by_cases q0 : per < 1
      · obtain rfl : res = false := by
          rw [← hR]
          unfold rightO acctB peerB sumB legsB perB holdB noteB Od.an Od.pn
          simp [HID.out, show ¬ (1 ≤ per) by omega]
        clear hR
        go_wp2
        go_ret
        exact ⟨rfl, HF2.out⟩
      by_cases q1 : 1000 < per
      · obtain rfl : res = false := by
          rw [← hR]
          unfold rightO acctB peerB sumB legsB perB holdB noteB Od.an Od.pn
          simp [HID.out, show 1 ≤ per by omega, show ¬ (per ≤ 1000) by omega]
        clear hR
        go_wp2
        go_ret
        exact ⟨rfl, HF2.out⟩
      obtain rfl : res = true := by
        rw [← hR]
        unfold rightO acctB peerB sumB legsB perB holdB noteB Od.an Od.pn
        simp [HID.out, show 1 ≤ per by omega, show per ≤ 1000 by omega]
      clear hR
      go_wp2
      go_ret
      exact ⟨rfl, HF2.out⟩
    · obtain rfl : peer = ⟨#[]⟩ := (congrArg Od.peer HEQ.out).trans (by simp [bareO])
      obtain rfl : sum = 0 := (congrArg Od.sum HEQ.out).trans (by simp [bareO])
      obtain rfl : legs = [] := (congrArg Od.legs HEQ.out).trans (by simp [bareO])
      obtain rfl : per = 0 := (congrArg Od.per HEQ.out).trans (by simp [bareO])
      obtain rfl : hold = 0 := (congrArg Od.hold HEQ.out).trans (by simp [bareO])
      obtain rfl : note = ⟨#[]⟩ := (congrArg Od.note HEQ.out).trans (by simp [bareO])
      have x0 := hp2.cell 0
      have x1 := hp2.cell 1
      have x2 := hp2.cell 2
      have x3 := hp2.cell 3
      have x4 := hp2.cell 4
      have x5 := hp2.cell 5
      have x6 := hp2.cell 6
      have x7 := hp2.cell 7
      have x8 := hp2.cell 8
      have x9 := hp2.cell 9
      simp only [List.getElem?_toArray, List.getElem?_cons_zero, List.getElem?_cons_succ] at x0 x1 x2 x3 x4 x5 x6 x7 x8 x9
      clear HEQ hp2
      have HN := Lib.hid (fun W => refname_any acct W o1)
      cases hn : nameB acct.data.toList with
      | false =>
        rw [hn] at HN
        obtain rfl : res = false := by
          rw [← hR]
          unfold rightO acctB peerB sumB legsB perB holdB noteB Od.an Od.pn
          simp [HID.out, hn]
        clear hR
        go_wp2_with fail
        refine (HN.out _).mono ?_
        rintro e u3 ⟨rfl, rfl⟩
        go_wp2
        go_ret
        exact ⟨rfl, HF2.out⟩
      | true =>
        rw [hn] at HN
        obtain rfl : res = true := by
          rw [← hR]
          unfold rightO acctB peerB sumB legsB perB holdB noteB Od.an Od.pn
          simp [HID.out, hn]
        clear hR
        go_wp2_with fail
        refine (HN.out _).mono ?_
        rintro e u3 ⟨rfl, rfl⟩
        go_wp2
        go_ret
        exact ⟨rfl, HF2.out⟩
end Go.Proofs.YtjbeaoabhhaiiaaGreat

namespace Go.Proofs.YtjbeaoabhhaiiaaGreat
open Go.RowKit Go.My Go.Maps
set_option linter.unusedSimpArgs false
set_option linter.unusedVariables false
attribute [local go_sem ↓] Go.wp_at_zero Go.wp_at_succ

/-- where the document's book lies -/
structure Rl where
  p : Nat
  c : Nat
  h : Nat
def Rl.wr (r : Rl) : Nat → Prop := fun i => i = r.p ∨ i = r.c ∨ i = r.h
structure RbS (w : World) (r : Rl) (b : Bk) : Prop where
  blk : Blk w r.p 97 #[.pointer (some ⟨r.c, 0, none⟩), .pointer (some ⟨r.h, 0, none⟩), .int .i64 b.cl]
  ch : RfS w r.c b.S
  hd : RfH w r.h b.H
  inv : BkI b
section
variable {w w' : World} {q : Pl} {r : Rl} {b b2 : Bk}
theorem RbS.fr {F : Nat → Prop} (h : RbS w r b) (hf : Fr F w w') (hn : ∀ i, r.wr i → ¬ F i) (hA : ∀ k, F k → ∀ cur, ¬ Blk w k 80 cur) (hH : ∀ k, F k → ∀ cur, ¬ Blk w k 129 cur) : RbS w' r b :=
  ⟨h.blk.fr hf (hn _ (.inl rfl)), h.ch.fr hf (hn _ (.inr (.inl rfl))) hA, h.hd.fr hf (hn _ (.inr (.inr rfl))) hH, h.inv⟩
theorem RbS.no (h : RbS w r b) (hf : Fr No w w') : RbS w' r b := ⟨h.blk.fr hf (fun h => h), h.ch.no hf, h.hd.no hf, h.inv⟩
theorem RbS.lt (h : RbS w r b) : ∀ i, r.wr i → i < w.heap.size := fun i hi => by
  rcases hi with rfl | rfl | rfl
  · exact h.blk.lt
  · exact h.ch.lt
  · exact h.hd.lt
theorem RbS.ne_pc (h : RbS w r b) : r.p ≠ r.c := by
  obtain ⟨cs, hc⟩ := h.ch.blk
  exact Blk.ne_ h.blk hc (by decide)
theorem RbS.ne_ph (h : RbS w r b) : r.p ≠ r.h := by
  obtain ⟨cs, hc⟩ := h.hd.blk
  exact Blk.ne_ h.blk hc (by decide)
theorem RbS.ne_ch (h : RbS w r b) : r.c ≠ r.h := by
  obtain ⟨cs, hc⟩ := h.hd.blk
  obtain ⟨cs', hc'⟩ := h.ch.blk
  exact Blk.ne_ hc' hc (by decide)
/-- what has changed is the chart -/
theorem RbS.chart (h : RbS w r b) {S : List Ac} (hc : RfS w' r.c S) (hf : Fr (At1 r.c) w w') (hi : BkI ⟨S, b.H, b.cl⟩) : RbS w' r ⟨S, b.H, b.cl⟩ := by
  obtain ⟨cs, hcb⟩ := h.ch.blk
  exact ⟨h.blk.fr hf (fun e => h.ne_pc e), hc, h.hd.chart hcb hf, hi⟩
/-- the chart and the holds -/
theorem RbS.both (h : RbS w r b) {n : Int} {S : List Ac} {H : List Hd} {e : Ending} (hr : RRet r.c r.h n S H w e w') (hi : BkI ⟨S, H, b.cl⟩) : RbS w' r ⟨S, H, b.cl⟩ :=
  ⟨h.blk.fr hr.2.2.2 (fun e => by rcases e with e | e; exact h.ne_pc e; exact h.ne_ph e), hr.2.1, hr.2.2.1, hi⟩
/-- the period alone -/
theorem RbS.period (h : RbS w r b) (n : Int) (hi : BkI ⟨b.S, b.H, n⟩) : RbS (w.setCell ⟨r.p, 2, none⟩ (.int .i64 n)) r ⟨b.S, b.H, n⟩ := by
  have hf := fr_set w r.p 2 (.int .i64 n)
  refine ⟨h.blk.set_ 2 _, h.ch.fr hf (fun e => h.ne_pc (show r.c = r.p from e).symm) (fun k hk cur hb => ?_), h.hd.fr hf (fun e => h.ne_ph (show r.h = r.p from e).symm) (fun k hk cur hb => ?_), hi⟩
  · have e : k = r.p := hk
    subst e
    exact Blk.ne_ h.blk hb (by decide) rfl
  · have e : k = r.p := hk
    subst e
    exact Blk.ne_ h.blk hb (by decide) rfl
/-- what the program's book does leaves the document's -/
theorem RbS.real (h : RbS w r b2) (hb : BkS w q b) (hf : Fr q.wr w w') : RbS w' r b2 := by
  obtain ⟨cc, hcc⟩ := h.ch.blk
  obtain ⟨ch, hch⟩ := h.hd.blk
  refine h.fr hf (fun i hi hw => ?_) (fun k hk cur hc => ?_) (fun k hk cur hc => ?_)
  · rcases hi with rfl | rfl | rfl <;> rcases hw with e | e | e
    · exact Blk.ne_ h.blk hb.blk (by decide) e
    · exact hb.ch.2.ne_ h.blk e.symm
    · exact hb.hd.2.ne_ h.blk e.symm
    · exact Blk.ne_ hcc hb.blk (by decide) e
    · exact hb.ch.2.ne_ hcc e.symm
    · exact hb.hd.2.ne_ hcc e.symm
    · exact Blk.ne_ hch hb.blk (by decide) e
    · exact hb.ch.2.ne_ hch e.symm
    · exact hb.hd.2.ne_ hch e.symm
  · rcases hk with rfl | rfl | rfl
    · exact Blk.ne_ hb.blk hc (by decide) rfl
    · exact hb.ch.2.ne_ hc rfl
    · exact hb.hd.2.ne_ hc rfl
  · rcases hk with rfl | rfl | rfl
    · exact Blk.ne_ hb.blk hc (by decide) rfl
    · exact hb.ch.2.ne_ hc rfl
    · exact hb.hd.2.ne_ hc rfl
/-- and the other way round -/
theorem BkS.ref (hb : BkS w q b) (h : RbS w r b2) (hf : Fr r.wr w w') : BkS w' q b := by
  obtain ⟨cc, hcc⟩ := h.ch.blk
  obtain ⟨ch, hch⟩ := h.hd.blk
  refine hb.fr hf fun i hi hw => ?_
  rcases hi with rfl | rfl | rfl | rfl | rfl <;> rcases hw with e | e | e
  · exact Blk.ne_ hb.blk h.blk (by decide) e
  · exact Blk.ne_ hb.blk hcc (by decide) e
  · exact Blk.ne_ hb.blk hch (by decide) e
  · exact Blk.ne_ hb.ch.1 h.blk (by decide) e
  · exact Blk.ne_ hb.ch.1 hcc (by decide) e
  · exact Blk.ne_ hb.ch.1 hch (by decide) e
  · exact hb.ch.2.ne_ h.blk e
  · exact hb.ch.2.ne_ hcc e
  · exact hb.ch.2.ne_ hch e
  · exact Blk.ne_ hb.hd.1 h.blk (by decide) e
  · exact Blk.ne_ hb.hd.1 hcc (by decide) e
  · exact Blk.ne_ hb.hd.1 hch (by decide) e
  · exact hb.hd.2.ne_ h.blk e
  · exact hb.hd.2.ne_ hcc e
  · exact hb.hd.2.ne_ hch e
theorem Rl.wr_c {r : Rl} (hf : Fr (At1 r.c) w w') : Fr r.wr w w' := hf.mono fun _ _ h => .inr (.inl h)
theorem Rl.wr_ch {r : Rl} (hf : Fr (At2 r.c r.h) w w') : Fr r.wr w w' := hf.mono fun _ _ h => by
  rcases h with h | h
  · exact .inr (.inl h)
  · exact .inr (.inr h)
end
/-- told, and done -/
def DidR (r : Rl) (x : Rp) (b : Bk) (w : World) (e : Ending) (w' : World) : Prop := e = .returned x.val ∧ RbS w' r b ∧ Fr r.wr w w'
end Go.Proofs.YtjbeaoabhhaiiaaGreat
