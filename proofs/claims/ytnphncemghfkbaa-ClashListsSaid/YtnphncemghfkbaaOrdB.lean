/- Contracts of package order: Same. -/
import Derived.Test.YtnphncemghfkbaaOrd6
import Derived.Deep.QuietTactic
import Derived.BigQuiet
namespace Go.Proofs.Ytnphncemghfkbaa
open Go.RowKit Go.My Go.Maps
set_option linter.unusedSimpArgs false
set_option linter.unusedVariables false
attribute [local go_sem ↓] Go.wp_at_zero Go.wp_at_succ

theorem bytes_ext {a b : ByteArray} (h : a.data.toList = b.data.toList) : a = b := by
  obtain ⟨⟨x⟩⟩ := a
  obtain ⟨⟨y⟩⟩ := b
  simp only at h
  rw [h]
instance : DecidableEq Lg := fun a b =>
  if h : a.acct.data.toList = b.acct.data.toList ∧ a.sum = b.sum then isTrue (by cases a; cases b; simp only [Lg.mk.injEq]; exact ⟨bytes_ext h.1, h.2⟩) else isFalse fun e => h (by subst e; exact ⟨rfl, rfl⟩)
theorem neq_lg (a b : Lg) (W : World) (h : a ≠ b) : (binOp .neq 56 (.agg #[.string a.acct, .int .i64 a.sum]) (.agg #[.string b.acct, .int .i64 b.sum])).run Try.prog W = .ok (.bool true) W := by
  have key : a.acct.toList = b.acct.toList → ¬ a.sum = b.sum := fun h1 h2 => h (by
    cases a; cases b
    simp only [Lg.mk.injEq]
    rw [ByteArray.toList_eq, ByteArray.toList_eq] at h1
    exact ⟨bytes_ext h1, h2⟩)
  simp [go_sem]
  exact key
def EqRel (w : World) (L R : List Lg) (iv : Value) (wr : World) : Prop := ∃ k j : Nat, k ≤ L.length ∧ iv = .int .i64 k ∧ L.take k = R.take k ∧ wr = w.drewN j
set_option maxRecDepth 100000 in
set_option maxHeartbeats 2000000 in
theorem equalL_any (F G : Nat → Prop) (v u : Value) (L R : List Lg) (w : World) (hv : LgS w F v L) (hu : LgS w G u R) :
    Calls Try.prog 50 #[v, u] w fun e w' => e = .returned (.bool (decide (L = R))) ∧ Fr No w w' := by
  obtain ⟨A, c, cA, rfl, hA, eA, hc1, hc2⟩ := hv
  obtain ⟨B, d, cB, rfl, hB, eB, hd1, hd2⟩ := hu
  have HA := Lib.hid hA
  have HB := Lib.hid hB
  have EA := Lib.hid eA
  have EB := Lib.hid eB
  have HM : Hid (L.length ≤ 9223372036854775807) := by show _ ≤ _; unfold maxLen at hc2; omega
  clear hA hB eA eB
  by_cases hlen : L.length = R.length
  · have hz : ((L.length : Int) != (R.length : Int)) = false := by rw [bne_eq_false_iff_eq]; omega
    have HL := Lib.hid hlen
    clear hlen
    go_enter Try.func50, Try.ntmps50
    go_wp2
    go_loopw [13] (fun iv wr => EqRel w L R iv wr) (fun iv _ => L.length - (intOf iv).toNat)
    case atStart => exact ⟨0, 0, Nat.zero_le _, rfl, rfl, rfl⟩
    case round =>
      obtain ⟨k, j, hk, rfl, heq, rfl⟩ := hrel
      have HE := Lib.hid heq
      clear heq
      by_cases hlt : k < L.length
      · have hlt2 : k < R.length := by have := HL.out; omega
        obtain ⟨ad, rfl, _, hok1, p0, p1⟩ := lg_at HA.out EA.out k hlt hlt
        obtain ⟨bd, rfl, _, hok2, q0, q1⟩ := lg_at HB.out EB.out k hlt2 hlt2
        have e1 : L.take (k + 1) = L.take k ++ [L[k]] := List.take_succ_eq_append_getElem hlt
        have e2 : R.take (k + 1) = R.take k ++ [R[k]] := List.take_succ_eq_append_getElem hlt2
        have hk62 : (k : Int) < 9223372036854775807 := by have := HM.out; omega
        by_cases hxy : L[k] = R[k]
        · have E : Hid (L.take (k + 1) = R.take (k + 1)) := by show _ = _; rw [e1, e2, HE.out, hxy]
          rw [← hxy] at q0 q1
          clear e1 e2 hxy hok1 hok2
          generalize L[k].acct = n1 at *
          generalize L[k].sum = v1 at *
          go_wp2
          go_quiet (fail)
          go_wp2
          go_roundw
          case rel => exact ⟨k + 1, _, by omega, by go_num, E.out, rfl⟩
          case measure => simp [intOf]; omega
        · have E : Hid (L ≠ R) := by
            intro h
            subst h
            exact hxy rfl
          have hne := fun W => neq_lg L[k] R[k] W hxy
          clear e1 e2 hxy hok1 hok2
          generalize L[k].acct = n1 at *
          generalize L[k].sum = v1 at *
          generalize R[k].acct = m1 at *
          generalize R[k].sum = u1 at *
          go_wp2
          go_quiet (fail)
          go_wp2
          go_ret
          exact ⟨by rw [decide_eq_false E.out]; rfl, ((Fr.refl _ _).drewN _).drewN _⟩
      · have hkl : k = L.length := by omega
        subst hkl
        have h1 := HE.out
        rw [List.take_length, HL.out, List.take_length] at h1
        have H1 := Lib.hid h1
        clear h1
        go_wp2
        go_ret
        exact ⟨by rw [decide_eq_true H1.out]; rfl, (Fr.refl _ _).drewN _⟩
  · have hz : ((L.length : Int) != (R.length : Int)) = true := by rw [bne_iff_ne]; omega
    have HL := Lib.hid hlen
    clear hlen
    go_enter Try.func50, Try.ntmps50
    go_wp2
    go_ret
    exact ⟨by rw [decide_eq_false (fun h => HL.out (by rw [h]))]; rfl, Fr.refl _ _⟩

/-- the same in every field -/
def eqO (o r : Od) : Bool := decide (o.cl = r.cl ∧ o.sq = r.sq) && (decide (o.kd = r.kd) && (decide (o.an = r.an) && (decide (o.pn = r.pn) && (decide (o.sum = r.sum) && (decide (o.legs = r.legs) && (decide (o.per = r.per) && (decide (o.hold = r.hold) && decide (o.note.data.toList = r.note.data.toList))))))))
theorem eqO_iff (o r : Od) : eqO o r = true ↔ o = r := by
  unfold eqO
  simp only [Bool.and_eq_true, decide_eq_true_eq]
  constructor
  · rintro ⟨⟨h1, h2⟩, h3, h4, h5, h6, h7, h8, h9, h10⟩
    obtain ⟨a, b, c, d, e, f, g, h, i, j⟩ := o
    obtain ⟨a', b', c', d', e', f', g', h', i', j'⟩ := r
    simp only [Od.an, Od.pn] at h1 h2 h3 h4 h5 h6 h7 h8 h9 h10
    rw [h1, h2, h3, bytes_ext h4, bytes_ext h5, h6, h7, h8, h9, bytes_ext h10]
  · rintro rfl
    simp
theorem eq_id (a b c d : Int) (W : World) (h : ¬ (a = c ∧ b = d)) : (binOp .eql 27 (.agg #[.int .i64 a, .int .i64 b]) (.agg #[.int .i64 c, .int .i64 d])).run Try.prog W = .ok (.bool false) W := by
  simp [go_sem]
  intro h1 h2
  exact h ⟨h1, h2⟩
set_option maxRecDepth 100000 in
set_option maxHeartbeats 8000000 in
theorem osame_any (F G : Nat → Prop) (o r : Od) (v u : Value) (w : World) (hv : LgS w F v o.legs) (hu : LgS w G u r.legs) :
    Calls Try.prog 41 #[o.val v, r.val u] w fun e w' => e = .returned (.bool (eqO o r)) ∧ Fr No w w' := by
  have HEQ := Lib.hid (fun W (hW : Fr No w W) => equalL_any F G v u o.legs r.legs W (hv.no hW) (hu.no hW))
  clear hv hu
  unfold Od.val
  obtain ⟨acl, asq, akd, aac, ape, asm, alg, apr, ahd, ant⟩ := o
  obtain ⟨bcl, bsq, bkd, bac, bpe, bsm, blg, bpr, bhd, bnt⟩ := r
  unfold Od.cs
  simp only at HEQ ⊢
  have HF : Hid (∀ o1 o2 : Obj, Fr No w ((w.alloc o1).alloc o2)) := fun o1 o2 => ((Fr.refl _ _).alloc _).alloc _
  by_cases h1 : acl = bcl ∧ asq = bsq
  rotate_left
  · have hne := fun W => eq_id acl asq bcl bsq W h1
    have HB : Hid (eqO ⟨acl, asq, akd, aac, ape, asm, alg, apr, ahd, ant⟩ ⟨bcl, bsq, bkd, bac, bpe, bsm, blg, bpr, bhd, bnt⟩ = false) := by show _ = _; unfold eqO; rw [decide_eq_false h1]; rfl
    clear h1 HEQ
    go_enter Try.func41, Try.ntmps41
    go_wp2
    go_ret
    exact ⟨by rw [HB.out]; rfl, HF.out _ _⟩
  obtain ⟨rfl, rfl⟩ := h1
  by_cases h2 : akd = bkd
  rotate_left
  · have HB : Hid (eqO ⟨acl, asq, akd, aac, ape, asm, alg, apr, ahd, ant⟩ ⟨acl, asq, bkd, bac, bpe, bsm, blg, bpr, bhd, bnt⟩ = false) := by
      show _ = _
      cases hq : eqO ⟨acl, asq, akd, aac, ape, asm, alg, apr, ahd, ant⟩ ⟨acl, asq, bkd, bac, bpe, bsm, blg, bpr, bhd, bnt⟩ with
      | false => rfl
      | true =>
        have h3 := (eqO_iff _ _).1 hq
        simp only [Od.mk.injEq] at h3
        exfalso
        apply h2
        simp only [h3]
    have hz : (akd == bkd) = false := beq_eq_false_iff_ne.2 h2
    clear h2
    clear HEQ
    go_enter Try.func41, Try.ntmps41
    go_wp2
    go_ret
    exact ⟨by rw [HB.out]; rfl, HF.out _ _⟩
  subst h2
  by_cases h2 : aac.data.toList = bac.data.toList
  rotate_left
  · have HB : Hid (eqO ⟨acl, asq, akd, aac, ape, asm, alg, apr, ahd, ant⟩ ⟨acl, asq, akd, bac, bpe, bsm, blg, bpr, bhd, bnt⟩ = false) := by
      show _ = _
      cases hq : eqO ⟨acl, asq, akd, aac, ape, asm, alg, apr, ahd, ant⟩ ⟨acl, asq, akd, bac, bpe, bsm, blg, bpr, bhd, bnt⟩ with
      | false => rfl
      | true =>
        have h3 := (eqO_iff _ _).1 hq
        simp only [Od.mk.injEq] at h3
        exfalso
        apply h2
        simp only [h3]
    have hz : (aac.toList == bac.toList) = false := by rw [ByteArray.toList_eq, ByteArray.toList_eq]; exact beq_eq_false_iff_ne.2 h2
    clear h2
    clear HEQ
    go_enter Try.func41, Try.ntmps41
    go_wp2
    go_ret
    exact ⟨by rw [HB.out]; rfl, HF.out _ _⟩
  obtain rfl := bytes_ext h2
  by_cases h2 : ape.data.toList = bpe.data.toList
  rotate_left
  · have HB : Hid (eqO ⟨acl, asq, akd, aac, ape, asm, alg, apr, ahd, ant⟩ ⟨acl, asq, akd, aac, bpe, bsm, blg, bpr, bhd, bnt⟩ = false) := by
      show _ = _
      cases hq : eqO ⟨acl, asq, akd, aac, ape, asm, alg, apr, ahd, ant⟩ ⟨acl, asq, akd, aac, bpe, bsm, blg, bpr, bhd, bnt⟩ with
      | false => rfl
      | true =>
        have h3 := (eqO_iff _ _).1 hq
        simp only [Od.mk.injEq] at h3
        exfalso
        apply h2
        simp only [h3]
    have hz : (ape.toList == bpe.toList) = false := by rw [ByteArray.toList_eq, ByteArray.toList_eq]; exact beq_eq_false_iff_ne.2 h2
    clear h2
    clear HEQ
    go_enter Try.func41, Try.ntmps41
    go_wp2
    go_ret
    exact ⟨by rw [HB.out]; rfl, HF.out _ _⟩
  obtain rfl := bytes_ext h2
  by_cases h2 : asm = bsm
  rotate_left
  · have HB : Hid (eqO ⟨acl, asq, akd, aac, ape, asm, alg, apr, ahd, ant⟩ ⟨acl, asq, akd, aac, ape, bsm, blg, bpr, bhd, bnt⟩ = false) := by
      show _ = _
      cases hq : eqO ⟨acl, asq, akd, aac, ape, asm, alg, apr, ahd, ant⟩ ⟨acl, asq, akd, aac, ape, bsm, blg, bpr, bhd, bnt⟩ with
      | false => rfl
      | true =>
        have h3 := (eqO_iff _ _).1 hq
        simp only [Od.mk.injEq] at h3
        exfalso
        apply h2
        simp only [h3]
    have hz : (asm == bsm) = false := beq_eq_false_iff_ne.2 h2
    clear h2
    clear HEQ
    go_enter Try.func41, Try.ntmps41
    go_wp2
    go_ret
    exact ⟨by rw [HB.out]; rfl, HF.out _ _⟩
  subst h2
  by_cases h2 : alg = blg
  rotate_left
  · have HB : Hid (eqO ⟨acl, asq, akd, aac, ape, asm, alg, apr, ahd, ant⟩ ⟨acl, asq, akd, aac, ape, asm, blg, bpr, bhd, bnt⟩ = false) := by
      show _ = _
      cases hq : eqO ⟨acl, asq, akd, aac, ape, asm, alg, apr, ahd, ant⟩ ⟨acl, asq, akd, aac, ape, asm, blg, bpr, bhd, bnt⟩ with
      | false => rfl
      | true =>
        have h3 := (eqO_iff _ _).1 hq
        simp only [Od.mk.injEq] at h3
        exfalso
        apply h2
        simp only [h3]
    rw [decide_eq_false h2] at HEQ
    clear h2
    go_enter Try.func41, Try.ntmps41
    go_wp2_with fail
    refine (HEQ.out _ (HF.out _ _)).mono ?_
    rintro e w1 ⟨rfl, hf1⟩
    have x7 := (Blk.new w 30 #[.int .i64 acl, .int .i64 asq, .int .i64 akd, .string aac, .string ape, .int .i64 asm, v, .int .i64 apr, .int .i64 ahd, .string ant]).alloc (.cells #[.int .i64 acl, .int .i64 asq, .int .i64 akd, .string aac, .string ape, .int .i64 asm, u, .int .i64 bpr, .int .i64 bhd, .string bnt] 30) |>.fr hf1 (fun h => h)
    have y7 := (Blk.new (w.alloc (.cells #[.int .i64 acl, .int .i64 asq, .int .i64 akd, .string aac, .string ape, .int .i64 asm, v, .int .i64 apr, .int .i64 ahd, .string ant] 30)) 30 #[.int .i64 acl, .int .i64 asq, .int .i64 akd, .string aac, .string ape, .int .i64 asm, u, .int .i64 bpr, .int .i64 bhd, .string bnt]).fr hf1 (fun h => h)
    have z7 := x7.cell 7
    have z8 := x7.cell 8
    have z9 := x7.cell 9
    have t7 := y7.cell 7
    have t8 := y7.cell 8
    have t9 := y7.cell 9
    rw [World.size_alloc] at t7 t8 t9
    simp only [List.getElem?_toArray, List.getElem?_cons_zero, List.getElem?_cons_succ] at z7 z8 z9 t7 t8 t9
    have HF1 := Lib.hid ((HF.out _ _).trans hf1)
    clear x7 y7 hf1 HEQ
    go_wp2
    go_ret
    exact ⟨by rw [HB.out]; rfl, HF1.out⟩
  subst h2
  rw [decide_eq_true rfl] at HEQ
  by_cases h2 : apr = bpr
  rotate_left
  · have HB : Hid (eqO ⟨acl, asq, akd, aac, ape, asm, alg, apr, ahd, ant⟩ ⟨acl, asq, akd, aac, ape, asm, alg, bpr, bhd, bnt⟩ = false) := by
      show _ = _
      cases hq : eqO ⟨acl, asq, akd, aac, ape, asm, alg, apr, ahd, ant⟩ ⟨acl, asq, akd, aac, ape, asm, alg, bpr, bhd, bnt⟩ with
      | false => rfl
      | true =>
        have h3 := (eqO_iff _ _).1 hq
        simp only [Od.mk.injEq] at h3
        exfalso
        apply h2
        simp only [h3]
    have hz : (apr == bpr) = false := beq_eq_false_iff_ne.2 h2
    clear h2
    go_enter Try.func41, Try.ntmps41
    go_wp2_with fail
    refine (HEQ.out _ (HF.out _ _)).mono ?_
    rintro e w1 ⟨rfl, hf1⟩
    have x7 := (Blk.new w 30 #[.int .i64 acl, .int .i64 asq, .int .i64 akd, .string aac, .string ape, .int .i64 asm, v, .int .i64 apr, .int .i64 ahd, .string ant]).alloc (.cells #[.int .i64 acl, .int .i64 asq, .int .i64 akd, .string aac, .string ape, .int .i64 asm, u, .int .i64 bpr, .int .i64 bhd, .string bnt] 30) |>.fr hf1 (fun h => h)
    have y7 := (Blk.new (w.alloc (.cells #[.int .i64 acl, .int .i64 asq, .int .i64 akd, .string aac, .string ape, .int .i64 asm, v, .int .i64 apr, .int .i64 ahd, .string ant] 30)) 30 #[.int .i64 acl, .int .i64 asq, .int .i64 akd, .string aac, .string ape, .int .i64 asm, u, .int .i64 bpr, .int .i64 bhd, .string bnt]).fr hf1 (fun h => h)
    have z7 := x7.cell 7
    have z8 := x7.cell 8
    have z9 := x7.cell 9
    have t7 := y7.cell 7
    have t8 := y7.cell 8
    have t9 := y7.cell 9
    rw [World.size_alloc] at t7 t8 t9
    simp only [List.getElem?_toArray, List.getElem?_cons_zero, List.getElem?_cons_succ] at z7 z8 z9 t7 t8 t9
    have HF1 := Lib.hid ((HF.out _ _).trans hf1)
    clear x7 y7 hf1 HEQ
    go_wp2
    go_ret
    exact ⟨by rw [HB.out]; rfl, HF1.out⟩
  subst h2
  by_cases h2 : ahd = bhd
  rotate_left
  · have HB : Hid (eqO ⟨acl, asq, akd, aac, ape, asm, alg, apr, ahd, ant⟩ ⟨acl, asq, akd, aac, ape, asm, alg, apr, bhd, bnt⟩ = false) := by
      show _ = _
      cases hq : eqO ⟨acl, asq, akd, aac, ape, asm, alg, apr, ahd, ant⟩ ⟨acl, asq, akd, aac, ape, asm, alg, apr, bhd, bnt⟩ with
      | false => rfl
      | true =>
        have h3 := (eqO_iff _ _).1 hq
        simp only [Od.mk.injEq] at h3
        exfalso
        apply h2
        simp only [h3]
    have hz : (ahd == bhd) = false := beq_eq_false_iff_ne.2 h2
    clear h2
    go_enter Try.func41, Try.ntmps41
    go_wp2_with fail
    refine (HEQ.out _ (HF.out _ _)).mono ?_
    rintro e w1 ⟨rfl, hf1⟩
    have x7 := (Blk.new w 30 #[.int .i64 acl, .int .i64 asq, .int .i64 akd, .string aac, .string ape, .int .i64 asm, v, .int .i64 apr, .int .i64 ahd, .string ant]).alloc (.cells #[.int .i64 acl, .int .i64 asq, .int .i64 akd, .string aac, .string ape, .int .i64 asm, u, .int .i64 apr, .int .i64 bhd, .string bnt] 30) |>.fr hf1 (fun h => h)
    have y7 := (Blk.new (w.alloc (.cells #[.int .i64 acl, .int .i64 asq, .int .i64 akd, .string aac, .string ape, .int .i64 asm, v, .int .i64 apr, .int .i64 ahd, .string ant] 30)) 30 #[.int .i64 acl, .int .i64 asq, .int .i64 akd, .string aac, .string ape, .int .i64 asm, u, .int .i64 apr, .int .i64 bhd, .string bnt]).fr hf1 (fun h => h)
    have z7 := x7.cell 7
    have z8 := x7.cell 8
    have z9 := x7.cell 9
    have t7 := y7.cell 7
    have t8 := y7.cell 8
    have t9 := y7.cell 9
    rw [World.size_alloc] at t7 t8 t9
    simp only [List.getElem?_toArray, List.getElem?_cons_zero, List.getElem?_cons_succ] at z7 z8 z9 t7 t8 t9
    have HF1 := Lib.hid ((HF.out _ _).trans hf1)
    clear x7 y7 hf1 HEQ
    go_wp2
    go_ret
    exact ⟨by rw [HB.out]; rfl, HF1.out⟩
  subst h2
  by_cases h2 : ant.data.toList = bnt.data.toList
  rotate_left
  · have HB : Hid (eqO ⟨acl, asq, akd, aac, ape, asm, alg, apr, ahd, ant⟩ ⟨acl, asq, akd, aac, ape, asm, alg, apr, ahd, bnt⟩ = false) := by
      show _ = _
      cases hq : eqO ⟨acl, asq, akd, aac, ape, asm, alg, apr, ahd, ant⟩ ⟨acl, asq, akd, aac, ape, asm, alg, apr, ahd, bnt⟩ with
      | false => rfl
      | true =>
        have h3 := (eqO_iff _ _).1 hq
        simp only [Od.mk.injEq] at h3
        exfalso
        apply h2
        simp only [h3]
    have hz : (ant.toList == bnt.toList) = false := by rw [ByteArray.toList_eq, ByteArray.toList_eq]; exact beq_eq_false_iff_ne.2 h2
    clear h2
    go_enter Try.func41, Try.ntmps41
    go_wp2_with fail
    refine (HEQ.out _ (HF.out _ _)).mono ?_
    rintro e w1 ⟨rfl, hf1⟩
    have x7 := (Blk.new w 30 #[.int .i64 acl, .int .i64 asq, .int .i64 akd, .string aac, .string ape, .int .i64 asm, v, .int .i64 apr, .int .i64 ahd, .string ant]).alloc (.cells #[.int .i64 acl, .int .i64 asq, .int .i64 akd, .string aac, .string ape, .int .i64 asm, u, .int .i64 apr, .int .i64 ahd, .string bnt] 30) |>.fr hf1 (fun h => h)
    have y7 := (Blk.new (w.alloc (.cells #[.int .i64 acl, .int .i64 asq, .int .i64 akd, .string aac, .string ape, .int .i64 asm, v, .int .i64 apr, .int .i64 ahd, .string ant] 30)) 30 #[.int .i64 acl, .int .i64 asq, .int .i64 akd, .string aac, .string ape, .int .i64 asm, u, .int .i64 apr, .int .i64 ahd, .string bnt]).fr hf1 (fun h => h)
    have z7 := x7.cell 7
    have z8 := x7.cell 8
    have z9 := x7.cell 9
    have t7 := y7.cell 7
    have t8 := y7.cell 8
    have t9 := y7.cell 9
    rw [World.size_alloc] at t7 t8 t9
    simp only [List.getElem?_toArray, List.getElem?_cons_zero, List.getElem?_cons_succ] at z7 z8 z9 t7 t8 t9
    have HF1 := Lib.hid ((HF.out _ _).trans hf1)
    clear x7 y7 hf1 HEQ
    go_wp2
    go_ret
    exact ⟨by rw [HB.out]; rfl, HF1.out⟩
  obtain rfl := bytes_ext h2
  have HB : Hid (eqO ⟨acl, asq, akd, aac, ape, asm, alg, apr, ahd, ant⟩ ⟨acl, asq, akd, aac, ape, asm, alg, apr, ahd, ant⟩ = true) := (eqO_iff _ _).2 rfl
  go_enter Try.func41, Try.ntmps41
  go_wp2_with fail
  refine (HEQ.out _ (HF.out _ _)).mono ?_
  rintro e w1 ⟨rfl, hf1⟩
  have x7 := (Blk.new w 30 #[.int .i64 acl, .int .i64 asq, .int .i64 akd, .string aac, .string ape, .int .i64 asm, v, .int .i64 apr, .int .i64 ahd, .string ant]).alloc (.cells #[.int .i64 acl, .int .i64 asq, .int .i64 akd, .string aac, .string ape, .int .i64 asm, u, .int .i64 apr, .int .i64 ahd, .string ant] 30) |>.fr hf1 (fun h => h)
  have y7 := (Blk.new (w.alloc (.cells #[.int .i64 acl, .int .i64 asq, .int .i64 akd, .string aac, .string ape, .int .i64 asm, v, .int .i64 apr, .int .i64 ahd, .string ant] 30)) 30 #[.int .i64 acl, .int .i64 asq, .int .i64 akd, .string aac, .string ape, .int .i64 asm, u, .int .i64 apr, .int .i64 ahd, .string ant]).fr hf1 (fun h => h)
  have z7 := x7.cell 7
  have z8 := x7.cell 8
  have z9 := x7.cell 9
  have t7 := y7.cell 7
  have t8 := y7.cell 8
  have t9 := y7.cell 9
  rw [World.size_alloc] at t7 t8 t9
  simp only [List.getElem?_toArray, List.getElem?_cons_zero, List.getElem?_cons_succ] at z7 z8 z9 t7 t8 t9
  have HF1 := Lib.hid ((HF.out _ _).trans hf1)
  clear x7 y7 hf1 HEQ
  go_wp2
  go_ret
  exact ⟨by rw [HB.out]; rfl, HF1.out⟩
end Go.Proofs.Ytnphncemghfkbaa
