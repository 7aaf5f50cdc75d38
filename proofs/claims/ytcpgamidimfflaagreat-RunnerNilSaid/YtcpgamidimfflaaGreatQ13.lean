/- Contracts of package order: Same. Entries: equal lists of Insts; which entry may be, which are the same: the program's. Entries: which are the same: the program's. Accounts, together. What ChartBack says of a chart's accounts: in lists. Vouchers, in lists: legs that are posted one after another. Of no walk. How accounts and legs that come in read. -/
import Derived.Test.YtcpgamidimfflaaGreatQ12
import Derived.Deep.QuietTactic
import Derived.BigQuiet
import Derived.Test.YtcpgamidimfflaaGreatQ10
import Derived.Test.YtcpgamidimfflaaGreatQ08
namespace Go.Proofs.YtcpgamidimfflaaGreat
open Go.RowKit Go.My Go.Maps
set_option linter.unusedSimpArgs false
set_option linter.unusedVariables false
attribute [local go_sem ↓] Go.wp_at_zero Go.wp_at_succ
theorem bytes_ext {a b : ByteArray} (h : a.data.toList = b.data.toList) : a = b := by
  obtain ⟨⟨x⟩⟩ := a
  obtain ⟨⟨y⟩⟩ := b
  simp only at h
  rw [h]
instance : DecidableEq Lg := fun a b =>
  if h : a.acct.data.toList = b.acct.data.toList ∧ a.sum = b.sum then isTrue (by cases a; cases b; simp only [Lg.mk.injEq]; exact ⟨bytes_ext h.1, h.2⟩) else isFalse fun e => h (by subst e; exact ⟨rfl, rfl⟩)
theorem neq_lg (a b : Lg) (W : World) (h : a ≠ b) : (binOp .neq 152 (.agg #[.string a.acct, .int .i64 a.sum]) (.agg #[.string b.acct, .int .i64 b.sum])).run Tryz.prog W = .ok (.bool true) W := by
  have key : a.acct.toList = b.acct.toList → ¬ a.sum = b.sum := fun h1 h2 => h (by
    cases a; cases b
    simp only [Lg.mk.injEq]
    rw [ByteArray.toList_eq, ByteArray.toList_eq] at h1
    exact ⟨bytes_ext h1, h2⟩)
  simp [go_sem]
  exact key
def EqRel (w : World) (L R : List Lg) (iv : Value) (wr : World) : Prop := ∃ k j : Nat, k ≤ L.length ∧ iv = .int .i64 k ∧ L.take k = R.take k ∧ wr = w.drewN j
set_option maxRecDepth 100000 in
set_option maxHeartbeats 2000000 in
theorem equalL_any (F G : Nat → Prop) (v u : Value) (L R : List Lg) (w : World) (hv : LgS w F v L) (hu : LgS w G u R) :
    Calls Tryz.prog 81 #[v, u] w fun e w' => e = .returned (.bool (decide (L = R))) ∧ Fr No w w' := by
  obtain ⟨A, c, cA, rfl, hA, eA, hc1, hc2⟩ := hv
  obtain ⟨B, d, cB, rfl, hB, eB, hd1, hd2⟩ := hu
  have HA := Lib.hid hA
  have HB := Lib.hid hB
  have EA := Lib.hid eA
  have EB := Lib.hid eB
  have HM : Hid (L.length ≤ 9223372036854775807) := by show _ ≤ _; unfold maxLen at hc2; omega
  clear hA hB eA eB
  by_cases hlen : L.length = R.length
  · have hz : ((L.length : Int) != (R.length : Int)) = false := by rw [bne_eq_false_iff_eq]; omega
    have HL := Lib.hid hlen
    clear hlen
    go_enter Tryz.func81, Tryz.ntmps81
    go_wp2
    go_loopw [13] (fun iv wr => EqRel w L R iv wr) (fun iv _ => L.length - (intOf iv).toNat)
    case atStart => exact ⟨0, 0, Nat.zero_le _, rfl, rfl, rfl⟩
    case round =>
      obtain ⟨k, j, hk, rfl, heq, rfl⟩ := hrel
      have HE := Lib.hid heq
      clear heq
      by_cases hlt : k < L.length
      · have hlt2 : k < R.length := by have := HL.out; omega
        obtain ⟨ad, rfl, _, hok1, p0, p1⟩ := lg_at HA.out EA.out k hlt hlt
        obtain ⟨bd, rfl, _, hok2, q0, q1⟩ := lg_at HB.out EB.out k hlt2 hlt2
        have e1 : L.take (k + 1) = L.take k ++ [L[k]] := List.take_succ_eq_append_getElem hlt
        have e2 : R.take (k + 1) = R.take k ++ [R[k]] := List.take_succ_eq_append_getElem hlt2
        have hk62 : (k : Int) < 9223372036854775807 := by have := HM.out; omega
        by_cases hxy : L[k] = R[k]
        · have E : Hid (L.take (k + 1) = R.take (k + 1)) := by show _ = _; rw [e1, e2, HE.out, hxy]
          rw [← hxy] at q0 q1
          clear e1 e2 hxy hok1 hok2
          generalize L[k].acct = n1 at *
          generalize L[k].sum = v1 at *
          go_wp2
          go_quiet (fail)
          go_wp2
          go_roundw
          case rel => exact ⟨k + 1, _, by omega, by go_num, E.out, rfl⟩
          case measure => simp [intOf]; omega
        · have E : Hid (L ≠ R) := by
            intro h
            subst h
            exact hxy rfl
          have hne := fun W => neq_lg L[k] R[k] W hxy
          clear e1 e2 hxy hok1 hok2
          generalize L[k].acct = n1 at *
          generalize L[k].sum = v1 at *
          generalize R[k].acct = m1 at *
          generalize R[k].sum = u1 at *
          go_wp2
          go_quiet (fail)
          go_wp2
          go_ret
          exact ⟨by rw [decide_eq_false E.out]; rfl, ((Fr.refl _ _).drewN _).drewN _⟩
      · have hkl : k = L.length := by omega
        subst hkl
        have h1 := HE.out
        rw [List.take_length, HL.out, List.take_length] at h1
        have H1 := Lib.hid h1
        clear h1
        go_wp2
        go_ret
        exact ⟨by rw [decide_eq_true H1.out]; rfl, (Fr.refl _ _).drewN _⟩
  · have hz : ((L.length : Int) != (R.length : Int)) = true := by rw [bne_iff_ne]; omega
    have HL := Lib.hid hlen
    clear hlen
    go_enter Tryz.func81, Tryz.ntmps81
    go_wp2
    go_ret
    exact ⟨by rw [decide_eq_false (fun h => HL.out (by rw [h]))]; rfl, Fr.refl _ _⟩
def eqO (o r : Od) : Bool := decide (o.cl = r.cl ∧ o.sq = r.sq) && (decide (o.kd = r.kd) && (decide (o.an = r.an) && (decide (o.pn = r.pn) && (decide (o.sum = r.sum) && (decide (o.legs = r.legs) && (decide (o.per = r.per) && (decide (o.hold = r.hold) && decide (o.note.data.toList = r.note.data.toList))))))))
theorem eqO_iff (o r : Od) : eqO o r = true ↔ o = r := by
  unfold eqO
  simp only [Bool.and_eq_true, decide_eq_true_eq]
  constructor
  · rintro ⟨⟨h1, h2⟩, h3, h4, h5, h6, h7, h8, h9, h10⟩
    obtain ⟨a, b, c, d, e, f, g, h, i, j⟩ := o
    obtain ⟨a', b', c', d', e', f', g', h', i', j'⟩ := r
    simp only [Od.an, Od.pn] at h1 h2 h3 h4 h5 h6 h7 h8 h9 h10
    rw [h1, h2, h3, bytes_ext h4, bytes_ext h5, h6, h7, h8, h9, bytes_ext h10]
  · rintro rfl
    simp
theorem eq_id (a b c d : Int) (W : World) (h : ¬ (a = c ∧ b = d)) : (binOp .eql 32 (.agg #[.int .i64 a, .int .i64 b]) (.agg #[.int .i64 c, .int .i64 d])).run Tryz.prog W = .ok (.bool false) W := by
  simp [go_sem]
  intro h1 h2
  exact h ⟨h1, h2⟩
set_option maxRecDepth 100000 in
set_option maxHeartbeats 8000000 in
theorem osame_any (F G : Nat → Prop) (o r : Od) (v u : Value) (w : World) (hv : LgS w F v o.legs) (hu : LgS w G u r.legs) :
    Calls Tryz.prog 43 #[o.val v, r.val u] w fun e w' => e = .returned (.bool (eqO o r)) ∧ Fr No w w' := by
  have HEQ := Lib.hid (fun W (hW : Fr No w W) => equalL_any F G v u o.legs r.legs W (hv.no hW) (hu.no hW))
  clear hv hu
  unfold Od.val
  obtain ⟨acl, asq, akd, aac, ape, asm, alg, apr, ahd, ant⟩ := o
  obtain ⟨bcl, bsq, bkd, bac, bpe, bsm, blg, bpr, bhd, bnt⟩ := r
  unfold Od.cs
  simp only at HEQ ⊢
  have HF : Hid (∀ o1 o2 : Obj, Fr No w ((w.alloc o1).alloc o2)) := fun o1 o2 => ((Fr.refl _ _).alloc _).alloc _
  by_cases h1 : acl = bcl ∧ asq = bsq
  rotate_left
  · have hne := fun W => eq_id acl asq bcl bsq W h1
    have HB : Hid (eqO ⟨acl, asq, akd, aac, ape, asm, alg, apr, ahd, ant⟩ ⟨bcl, bsq, bkd, bac, bpe, bsm, blg, bpr, bhd, bnt⟩ = false) := by show _ = _; unfold eqO; rw [decide_eq_false h1]; rfl
    clear h1 HEQ
    go_enter Tryz.func43, Tryz.ntmps43
    go_wp2
    go_ret
    exact ⟨by rw [HB.out]; rfl, HF.out _ _⟩
  obtain ⟨rfl, rfl⟩ := h1
  by_cases h2 : akd = bkd
  rotate_left
  · have HB : Hid (eqO ⟨acl, asq, akd, aac, ape, asm, alg, apr, ahd, ant⟩ ⟨acl, asq, bkd, bac, bpe, bsm, blg, bpr, bhd, bnt⟩ = false) := by
      show _ = _
      cases hq : eqO ⟨acl, asq, akd, aac, ape, asm, alg, apr, ahd, ant⟩ ⟨acl, asq, bkd, bac, bpe, bsm, blg, bpr, bhd, bnt⟩ with
      | false => rfl
      | true =>
        have h3 := (eqO_iff _ _).1 hq
        simp only [Od.mk.injEq] at h3
        exfalso
        apply h2
        simp only [h3]
    have hz : (akd == bkd) = false := beq_eq_false_iff_ne.2 h2
    clear h2
    clear HEQ
    go_enter Tryz.func43, Tryz.ntmps43
    go_wp2
    go_ret
    exact ⟨by rw [HB.out]; rfl, HF.out _ _⟩
  subst h2
  by_cases h2 : aac.data.toList = bac.data.toList
  rotate_left
  · have HB : Hid (eqO ⟨acl, asq, akd, aac, ape, asm, alg, apr, ahd, ant⟩ ⟨acl, asq, akd, bac, bpe, bsm, blg, bpr, bhd, bnt⟩ = false) := by
      show _ = _
      cases hq : eqO ⟨acl, asq, akd, aac, ape, asm, alg, apr, ahd, ant⟩ ⟨acl, asq, akd, bac, bpe, bsm, blg, bpr, bhd, bnt⟩ with
      | false => rfl
      | true =>
        have h3 := (eqO_iff _ _).1 hq
        simp only [Od.mk.injEq] at h3
        exfalso
        apply h2
        simp only [h3]
    have hz : (aac.toList == bac.toList) = false := by rw [ByteArray.toList_eq, ByteArray.toList_eq]; exact beq_eq_false_iff_ne.2 h2
    clear h2
    clear HEQ
    go_enter Tryz.func43, Tryz.ntmps43
    go_wp2
    go_ret
    exact ⟨by rw [HB.out]; rfl, HF.out _ _⟩
  obtain rfl := bytes_ext h2
  by_cases h2 : ape.data.toList = bpe.data.toList
  rotate_left
  · have HB : Hid (eqO ⟨acl, asq, akd, aac, ape, asm, alg, apr, ahd, ant⟩ ⟨acl, asq, akd, aac, bpe, bsm, blg, bpr, bhd, bnt⟩ = false) := by
      show _ = _
      cases hq : eqO ⟨acl, asq, akd, aac, ape, asm, alg, apr, ahd, ant⟩ ⟨acl, asq, akd, aac, bpe, bsm, blg, bpr, bhd, bnt⟩ with
      | false => rfl
      | true =>
        have h3 := (eqO_iff _ _).1 hq
        simp only [Od.mk.injEq] at h3
        exfalso
        apply h2
        simp only [h3]
    have hz : (ape.toList == bpe.toList) = false := by rw [ByteArray.toList_eq, ByteArray.toList_eq]; exact beq_eq_false_iff_ne.2 h2
    clear h2
    clear HEQ
    go_enter Tryz.func43, Tryz.ntmps43
    go_wp2
    go_ret
    exact ⟨by rw [HB.out]; rfl, HF.out _ _⟩
  obtain rfl := bytes_ext h2
  by_cases h2 : asm = bsm
  rotate_left
  · have HB : Hid (eqO ⟨acl, asq, akd, aac, ape, asm, alg, apr, ahd, ant⟩ ⟨acl, asq, akd, aac, ape, bsm, blg, bpr, bhd, bnt⟩ = false) := by
      show _ = _
      cases hq : eqO ⟨acl, asq, akd, aac, ape, asm, alg, apr, ahd, ant⟩ ⟨acl, asq, akd, aac, ape, bsm, blg, bpr, bhd, bnt⟩ with
      | false => rfl
      | true =>
        have h3 := (eqO_iff _ _).1 hq
        simp only [Od.mk.injEq] at h3
        exfalso
        apply h2
        simp only [h3]
    have hz : (asm == bsm) = false := beq_eq_false_iff_ne.2 h2
    clear h2
    clear HEQ
    go_enter Tryz.func43, Tryz.ntmps43
    go_wp2
    go_ret
    exact ⟨by rw [HB.out]; rfl, HF.out _ _⟩
  subst h2
  by_cases h2 : alg = blg
  rotate_left
  · have HB : Hid (eqO ⟨acl, asq, akd, aac, ape, asm, alg, apr, ahd, ant⟩ ⟨acl, asq, akd, aac, ape, asm, blg, bpr, bhd, bnt⟩ = false) := by
      show _ = _
      cases hq : eqO ⟨acl, asq, akd, aac, ape, asm, alg, apr, ahd, ant⟩ ⟨acl, asq, akd, aac, ape, asm, blg, bpr, bhd, bnt⟩ with
      | false => rfl
      | true =>
        have h3 := (eqO_iff _ _).1 hq
        simp only [Od.mk.injEq] at h3
        exfalso
        apply h2
        simp only [h3]
    rw [decide_eq_false h2] at HEQ
    clear h2
    go_enter Tryz.func43, Tryz.ntmps43
    go_wp2_with fail
    refine (HEQ.out _ (HF.out _ _)).mono ?_
    rintro e w1 ⟨rfl, hf1⟩
    have x7 := (Blk.new w 35 #[.int .i64 acl, .int .i64 asq, .int .i64 akd, .string aac, .string ape, .int .i64 asm, v, .int .i64 apr, .int .i64 ahd, .string ant]).alloc (.cells #[.int .i64 acl, .int .i64 asq, .int .i64 akd, .string aac, .string ape, .int .i64 asm, u, .int .i64 bpr, .int .i64 bhd, .string bnt] 35) |>.fr hf1 (fun h => h)
    have y7 := (Blk.new (w.alloc (.cells #[.int .i64 acl, .int .i64 asq, .int .i64 akd, .string aac, .string ape, .int .i64 asm, v, .int .i64 apr, .int .i64 ahd, .string ant] 35)) 35 #[.int .i64 acl, .int .i64 asq, .int .i64 akd, .string aac, .string ape, .int .i64 asm, u, .int .i64 bpr, .int .i64 bhd, .string bnt]).fr hf1 (fun h => h)
    have z7 := x7.cell 7
    have z8 := x7.cell 8
    have z9 := x7.cell 9
    have t7 := y7.cell 7
    have t8 := y7.cell 8
    have t9 := y7.cell 9
    rw [World.size_alloc] at t7 t8 t9
    simp only [List.getElem?_toArray, List.getElem?_cons_zero, List.getElem?_cons_succ] at z7 z8 z9 t7 t8 t9
    have HF1 := Lib.hid ((HF.out _ _).trans hf1)
    clear x7 y7 hf1 HEQ
    go_wp2
    go_ret
    exact ⟨by rw [HB.out]; rfl, HF1.out⟩
  subst h2
  rw [decide_eq_true rfl] at HEQ
  by_cases h2 : apr = bpr
  rotate_left
  · have HB : Hid (eqO ⟨acl, asq, akd, aac, ape, asm, alg, apr, ahd, ant⟩ ⟨acl, asq, akd, aac, ape, asm, alg, bpr, bhd, bnt⟩ = false) := by
      show _ = _
      cases hq : eqO ⟨acl, asq, akd, aac, ape, asm, alg, apr, ahd, ant⟩ ⟨acl, asq, akd, aac, ape, asm, alg, bpr, bhd, bnt⟩ with
      | false => rfl
      | true =>
        have h3 := (eqO_iff _ _).1 hq
        simp only [Od.mk.injEq] at h3
        exfalso
        apply h2
        simp only [h3]
    have hz : (apr == bpr) = false := beq_eq_false_iff_ne.2 h2
    clear h2
    go_enter Tryz.func43, Tryz.ntmps43
    go_wp2_with fail
    refine (HEQ.out _ (HF.out _ _)).mono ?_
    rintro e w1 ⟨rfl, hf1⟩
    have x7 := (Blk.new w 35 #[.int .i64 acl, .int .i64 asq, .int .i64 akd, .string aac, .string ape, .int .i64 asm, v, .int .i64 apr, .int .i64 ahd, .string ant]).alloc (.cells #[.int .i64 acl, .int .i64 asq, .int .i64 akd, .string aac, .string ape, .int .i64 asm, u, .int .i64 bpr, .int .i64 bhd, .string bnt] 35) |>.fr hf1 (fun h => h)
    have y7 := (Blk.new (w.alloc (.cells #[.int .i64 acl, .int .i64 asq, .int .i64 akd, .string aac, .string ape, .int .i64 asm, v, .int .i64 apr, .int .i64 ahd, .string ant] 35)) 35 #[.int .i64 acl, .int .i64 asq, .int .i64 akd, .string aac, .string ape, .int .i64 asm, u, .int .i64 bpr, .int .i64 bhd, .string bnt]).fr hf1 (fun h => h)
    have z7 := x7.cell 7
    have z8 := x7.cell 8
    have z9 := x7.cell 9
    have t7 := y7.cell 7
    have t8 := y7.cell 8
    have t9 := y7.cell 9
    rw [World.size_alloc] at t7 t8 t9
    simp only [List.getElem?_toArray, List.getElem?_cons_zero, List.getElem?_cons_succ] at z7 z8 z9 t7 t8 t9
    have HF1 := Lib.hid ((HF.out _ _).trans hf1)
    clear x7 y7 hf1 HEQ
    go_wp2
    go_ret
    exact ⟨by rw [HB.out]; rfl, HF1.out⟩
  subst h2
  by_cases h2 : ahd = bhd
  rotate_left
  · have HB : Hid (eqO ⟨acl, asq, akd, aac, ape, asm, alg, apr, ahd, ant⟩ ⟨acl, asq, akd, aac, ape, asm, alg, apr, bhd, bnt⟩ = false) := by
      show _ = _
      cases hq : eqO ⟨acl, asq, akd, aac, ape, asm, alg, apr, ahd, ant⟩ ⟨acl, asq, akd, aac, ape, asm, alg, apr, bhd, bnt⟩ with
      | false => rfl
      | true =>
        have h3 := (eqO_iff _ _).1 hq
        simp only [Od.mk.injEq] at h3
        exfalso
        apply h2
        simp only [h3]
    have hz : (ahd == bhd) = false := beq_eq_false_iff_ne.2 h2
    clear h2
    go_enter Tryz.func43, Tryz.ntmps43
    go_wp2_with fail
    refine (HEQ.out _ (HF.out _ _)).mono ?_
    rintro e w1 ⟨rfl, hf1⟩
    have x7 := (Blk.new w 35 #[.int .i64 acl, .int .i64 asq, .int .i64 akd, .string aac, .string ape, .int .i64 asm, v, .int .i64 apr, .int .i64 ahd, .string ant]).alloc (.cells #[.int .i64 acl, .int .i64 asq, .int .i64 akd, .string aac, .string ape, .int .i64 asm, u, .int .i64 apr, .int .i64 bhd, .string bnt] 35) |>.fr hf1 (fun h => h)
    have y7 := (Blk.new (w.alloc (.cells #[.int .i64 acl, .int .i64 asq, .int .i64 akd, .string aac, .string ape, .int .i64 asm, v, .int .i64 apr, .int .i64 ahd, .string ant] 35)) 35 #[.int .i64 acl, .int .i64 asq, .int .i64 akd, .string aac, .string ape, .int .i64 asm, u, .int .i64 apr, .int .i64 bhd, .string bnt]).fr hf1 (fun h => h)
    have z7 := x7.cell 7
    have z8 := x7.cell 8
    have z9 := x7.cell 9
    have t7 := y7.cell 7
    have t8 := y7.cell 8
    have t9 := y7.cell 9
    rw [World.size_alloc] at t7 t8 t9
    simp only [List.getElem?_toArray, List.getElem?_cons_zero, List.getElem?_cons_succ] at z7 z8 z9 t7 t8 t9
    have HF1 := Lib.hid ((HF.out _ _).trans hf1)
    clear x7 y7 hf1 HEQ
    go_wp2
    go_ret
    exact ⟨by rw [HB.out]; rfl, HF1.out⟩
  subst h2
  by_cases h2 : ant.data.toList = bnt.data.toList
  rotate_left
  · have HB : Hid (eqO ⟨acl, asq, akd, aac, ape, asm, alg, apr, ahd, ant⟩ ⟨acl, asq, akd, aac, ape, asm, alg, apr, ahd, bnt⟩ = false) := by
      show _ = _
      cases hq : eqO ⟨acl, asq, akd, aac, ape, asm, alg, apr, ahd, ant⟩ ⟨acl, asq, akd, aac, ape, asm, alg, apr, ahd, bnt⟩ with
      | false => rfl
      | true =>
        have h3 := (eqO_iff _ _).1 hq
        simp only [Od.mk.injEq] at h3
        exfalso
        apply h2
        simp only [h3]
    have hz : (ant.toList == bnt.toList) = false := by rw [ByteArray.toList_eq, ByteArray.toList_eq]; exact beq_eq_false_iff_ne.2 h2
    clear h2
    go_enter Tryz.func43, Tryz.ntmps43
    go_wp2_with fail
    refine (HEQ.out _ (HF.out _ _)).mono ?_
    rintro e w1 ⟨rfl, hf1⟩
    have x7 := (Blk.new w 35 #[.int .i64 acl, .int .i64 asq, .int .i64 akd, .string aac, .string ape, .int .i64 asm, v, .int .i64 apr, .int .i64 ahd, .string ant]).alloc (.cells #[.int .i64 acl, .int .i64 asq, .int .i64 akd, .string aac, .string ape, .int .i64 asm, u, .int .i64 apr, .int .i64 ahd, .string bnt] 35) |>.fr hf1 (fun h => h)
    have y7 := (Blk.new (w.alloc (.cells #[.int .i64 acl, .int .i64 asq, .int .i64 akd, .string aac, .string ape, .int .i64 asm, v, .int .i64 apr, .int .i64 ahd, .string ant] 35)) 35 #[.int .i64 acl, .int .i64 asq, .int .i64 akd, .string aac, .string ape, .int .i64 asm, u, .int .i64 apr, .int .i64 ahd, .string bnt]).fr hf1 (fun h => h)
    have z7 := x7.cell 7
    have z8 := x7.cell 8
    have z9 := x7.cell 9
    have t7 := y7.cell 7
    have t8 := y7.cell 8
    have t9 := y7.cell 9
    rw [World.size_alloc] at t7 t8 t9
    simp only [List.getElem?_toArray, List.getElem?_cons_zero, List.getElem?_cons_succ] at z7 z8 z9 t7 t8 t9
    have HF1 := Lib.hid ((HF.out _ _).trans hf1)
    clear x7 y7 hf1 HEQ
    go_wp2
    go_ret
    exact ⟨by rw [HB.out]; rfl, HF1.out⟩
  obtain rfl := bytes_ext h2
  have HB : Hid (eqO ⟨acl, asq, akd, aac, ape, asm, alg, apr, ahd, ant⟩ ⟨acl, asq, akd, aac, ape, asm, alg, apr, ahd, ant⟩ = true) := (eqO_iff _ _).2 rfl
  go_enter Tryz.func43, Tryz.ntmps43
  go_wp2_with fail
  refine (HEQ.out _ (HF.out _ _)).mono ?_
  rintro e w1 ⟨rfl, hf1⟩
  have x7 := (Blk.new w 35 #[.int .i64 acl, .int .i64 asq, .int .i64 akd, .string aac, .string ape, .int .i64 asm, v, .int .i64 apr, .int .i64 ahd, .string ant]).alloc (.cells #[.int .i64 acl, .int .i64 asq, .int .i64 akd, .string aac, .string ape, .int .i64 asm, u, .int .i64 apr, .int .i64 ahd, .string ant] 35) |>.fr hf1 (fun h => h)
  have y7 := (Blk.new (w.alloc (.cells #[.int .i64 acl, .int .i64 asq, .int .i64 akd, .string aac, .string ape, .int .i64 asm, v, .int .i64 apr, .int .i64 ahd, .string ant] 35)) 35 #[.int .i64 acl, .int .i64 asq, .int .i64 akd, .string aac, .string ape, .int .i64 asm, u, .int .i64 apr, .int .i64 ahd, .string ant]).fr hf1 (fun h => h)
  have z7 := x7.cell 7
  have z8 := x7.cell 8
  have z9 := x7.cell 9
  have t7 := y7.cell 7
  have t8 := y7.cell 8
  have t9 := y7.cell 9
  rw [World.size_alloc] at t7 t8 t9
  simp only [List.getElem?_toArray, List.getElem?_cons_zero, List.getElem?_cons_succ] at z7 z8 z9 t7 t8 t9
  have HF1 := Lib.hid ((HF.out _ _).trans hf1)
  clear x7 y7 hf1 HEQ
  go_wp2
  go_ret
  exact ⟨by rw [HB.out]; rfl, HF1.out⟩
end Go.Proofs.YtcpgamidimfflaaGreat
namespace Go.Proofs.YtcpgamidimfflaaGreat
open Go.RowKit Go.My Go.Maps
set_option linter.unusedSimpArgs false
set_option linter.unusedVariables false
attribute [local go_sem ↓] Go.wp_at_zero Go.wp_at_succ
theorem neq_in (a b : In2) (W : World) (h : a ≠ b) : (binOp .neq 30 (.agg #[.int .i64 a.1, .int .i64 a.2]) (.agg #[.int .i64 b.1, .int .i64 b.2])).run Tryz.prog W = .ok (.bool true) W := by
  have key : a.1 = b.1 → ¬ a.2 = b.2 := fun h1 h2 => h (Prod.ext h1 h2)
  simp [go_sem]
  exact key
def EqRelI (w : World) (L R : List In2) (iv : Value) (wr : World) : Prop := ∃ k j : Nat, k ≤ L.length ∧ iv = .int .i64 k ∧ L.take k = R.take k ∧ wr = w.drewN j
set_option maxRecDepth 100000 in
set_option maxHeartbeats 2000000 in
theorem equalIn_any (F G : Nat → Prop) (A B : Option Addr) (c d : Nat) (L R : List In2) (w : World) (hA : Rd w F 2 A L.length (ins2 L)) (hB : Rd w G 2 B R.length (ins2 R)) (hl : L.length ≤ 1000000) :
    Calls Tryz.prog 77 #[.slice A L.length c, .slice B R.length d] w fun e w' => e = .returned (.bool (decide (L = R))) ∧ Fr No w w' := by
  have HA := Lib.hid hA
  have HB := Lib.hid hB
  have HM : Hid (L.length ≤ 1000000) := hl
  clear hA hB
  by_cases hlen : L.length = R.length
  · have hz : ((L.length : Int) != (R.length : Int)) = false := by rw [bne_eq_false_iff_eq]; omega
    have HL := Lib.hid hlen
    clear hlen
    go_enter Tryz.func77, Tryz.ntmps77
    go_wp2
    go_loopw [13] (fun iv wr => EqRelI w L R iv wr) (fun iv _ => L.length - (intOf iv).toNat)
    case atStart => exact ⟨0, 0, Nat.zero_le _, rfl, rfl, rfl⟩
    case round =>
      obtain ⟨k, j, hk, rfl, heq, rfl⟩ := hrel
      have HE := Lib.hid heq
      clear heq
      by_cases hlt : k < L.length
      · have hlt2 : k < R.length := by have := HL.out; omega
        obtain ⟨ad, rfl, _, p0, p1⟩ := in2_at HA.out k hlt
        obtain ⟨bd, rfl, _, q0, q1⟩ := in2_at HB.out k hlt2
        have e1 : L.take (k + 1) = L.take k ++ [L[k]] := List.take_succ_eq_append_getElem hlt
        have e2 : R.take (k + 1) = R.take k ++ [R[k]] := List.take_succ_eq_append_getElem hlt2
        have hk62 : (k : Int) ≤ 1000000 := by have := HM.out; omega
        by_cases hxy : L[k] = R[k]
        · have E : Hid (L.take (k + 1) = R.take (k + 1)) := by show _ = _; rw [e1, e2, HE.out, hxy]
          rw [← hxy] at q0 q1
          clear e1 e2 hxy
          generalize L[k].1 = n1 at *
          generalize L[k].2 = v1 at *
          go_wp2
          go_quiet (fail)
          go_wp2
          go_roundw
          case rel => exact ⟨k + 1, _, by omega, by go_num, E.out, rfl⟩
          case measure => simp [intOf]; omega
        · have E : Hid (L ≠ R) := by
            intro h
            subst h
            exact hxy rfl
          have hne := fun W => neq_in L[k] R[k] W hxy
          clear e1 e2 hxy
          generalize L[k].1 = n1 at *
          generalize L[k].2 = v1 at *
          generalize R[k].1 = m1 at *
          generalize R[k].2 = u1 at *
          go_wp2
          go_quiet (fail)
          go_wp2
          go_ret
          exact ⟨by rw [decide_eq_false E.out]; rfl, ((Fr.refl _ _).drewN _).drewN _⟩
      · have hkl : k = L.length := by omega
        subst hkl
        have h1 := HE.out
        rw [List.take_length, HL.out, List.take_length] at h1
        have H1 := Lib.hid h1
        clear h1
        go_wp2
        go_ret
        exact ⟨by rw [decide_eq_true H1.out]; rfl, (Fr.refl _ _).drewN _⟩
  · have hz : ((L.length : Int) != (R.length : Int)) = true := by rw [bne_iff_ne]; omega
    have HL := Lib.hid hlen
    clear hlen
    go_enter Tryz.func77, Tryz.ntmps77
    go_wp2
    go_ret
    exact ⟨by rw [decide_eq_false (fun h => HL.out (by rw [h]))]; rfl, Fr.refl _ _⟩
structure En where
  o : Od
  none : Bool
  deps : List In2
def od0 : Od := ⟨0, 0, 0, ⟨#[]⟩, ⟨#[]⟩, 0, [], 0, 0, ⟨#[]⟩⟩
def En.val (e : En) (v d : Value) : Value := .agg #[.int .i64 e.o.cl, .int .i64 e.o.sq, .int .i64 e.o.kd, .string e.o.acct, .string e.o.peer, .int .i64 e.o.sum, v, .int .i64 e.o.per, .int .i64 e.o.hold, .string e.o.note, .bool e.none, d]
structure EnS (w : World) (F : Nat → Prop) (e : En) (v : Value) (A : Option Addr) (c : Nat) : Prop where
  ok : e.o.ok
  legs : LgS w F v e.o.legs
  deps : Rd w F 2 A e.deps.length (ins2 e.deps)
  cap : e.deps.length ≤ c ∧ c ≤ maxLen
theorem EnS.no {w w' : World} {F : Nat → Prop} {e : En} {v : Value} {A : Option Addr} {c : Nat} (h : EnS w F e v A c) (hf : Fr No w w') : EnS w' F e v A c :=
  ⟨h.ok, h.legs.no hf, h.deps.fr (by decide : 0 < 2) hf (fun _ _ _ h => h), h.cap⟩
noncomputable def rightE (i : In2) (e : En) : Bool := rightI i && ((if e.none then eqO e.o od0 else rightO e.o) && dsB i e.deps)
def sameE (a b : En) : Bool := (a.none == b.none) && (eqO a.o b.o && decide (a.deps = b.deps))
theorem LgS_nil14 (w : World) (F : Nat → Prop) : LgS w F (.slice none 0 0) [] := ⟨none, 0, [], rfl, ⟨by simp, fun h => by simp at h⟩, ⟨rfl, fun i x hx => by simp at hx⟩, Nat.le_refl _, Nat.zero_le _⟩
set_option maxRecDepth 100000 in
set_option maxHeartbeats 2000000 in
theorem right14_any (F : Nat → Prop) (i : In2) (e : En) (v : Value) (A : Option Addr) (c : Nat) (w : World) (h : EnS w F e v A c) (hl : e.deps.length ≤ 1000000) :
    Calls Tryz.prog 13 #[.agg #[.int .i64 i.1, .int .i64 i.2], e.val v (.slice A e.deps.length c)] w fun x w' => x = .returned (.bool (rightE i e)) ∧ Fr No w w' := by
  obtain ⟨res, hres⟩ : ∃ res, res = rightE i e := ⟨_, rfl⟩
  rw [← hres]
  unfold rightE at hres
  have HRES := Lib.hid hres
  have HRI : Hid (∀ W, Calls Tryz.prog 42 #[.agg #[.int .i64 i.1, .int .i64 i.2]] W fun x w' => x = .returned (.bool (rightI i)) ∧ Fr No W w') := Lib.hid (fun W => rightInst_any i W)
  have HRD : Hid (∀ W, Fr No w W → Calls Tryz.prog 44 #[.agg #[.int .i64 i.1, .int .i64 i.2], .slice A e.deps.length c] W fun x w' => x = .returned (.bool (dsB i e.deps)) ∧ Fr No W w') := Lib.hid (fun W hW => rightDeps_any i F A c e.deps W (h.no hW).deps hl)
  have HSA : Hid (∀ W, Fr No w W → Calls Tryz.prog 43 #[.agg #[.int .i64 e.o.cl, .int .i64 e.o.sq, .int .i64 e.o.kd, .string e.o.acct, .string e.o.peer, .int .i64 e.o.sum, v, .int .i64 e.o.per, .int .i64 e.o.hold, .string e.o.note], .agg #[.int .i64 0, .int .i64 0, .int .i64 0, .string ⟨#[]⟩, .string ⟨#[]⟩, .int .i64 0, .slice none 0 0, .int .i64 0, .int .i64 0, .string ⟨#[]⟩]] W fun x w' => x = .returned (.bool (eqO e.o od0)) ∧ Fr No W w') := Lib.hid (fun W hW => osame_any F (fun _ => False) e.o od0 v (.slice none 0 0) W (h.no hW).legs (LgS_nil14 _ _))
  have HRO : Hid (∀ W, Fr No w W → Calls Tryz.prog 45 #[.agg #[.int .i64 e.o.cl, .int .i64 e.o.sq, .int .i64 e.o.kd, .string e.o.acct, .string e.o.peer, .int .i64 e.o.sum, v, .int .i64 e.o.per, .int .i64 e.o.hold, .string e.o.note]] W fun x w' => x = .returned (.bool (rightO e.o)) ∧ Fr No W w') := Lib.hid (fun W hW => rightO_any F e.o v W h.ok (h.no hW).legs)
  unfold En.val
  clear h hres
  generalize eqO e.o od0 = be at *
  generalize rightO e.o = br at *
  generalize dsB i e.deps = bd at *
  generalize rightI i = bi at *
  generalize e.deps.length = n at *
  generalize e.none = bn at *
  generalize e.o.cl = x0 at *
  generalize e.o.sq = x1 at *
  generalize e.o.kd = x2 at *
  generalize e.o.acct = x3 at *
  generalize e.o.peer = x4 at *
  generalize e.o.sum = x5 at *
  generalize e.o.per = x7 at *
  generalize e.o.hold = x8 at *
  generalize e.o.note = x9 at *
  generalize i.1 = i1 at *
  generalize i.2 = i2 at *
  cases bi with
  | false =>
    go_enter Tryz.func13, Tryz.ntmps13
    go_wp2_with (go_at_call 42; (with_reducible refine (HRI.out _).mono ?_); rintro _ u1 ⟨rfl, f1⟩; have HF1 := Lib.hid f1; clear f1)
    go_ret
    exact ⟨by rw [HRES.out]; rfl, (((Fr.refl _ _).alloc _).alloc _).trans HF1.out⟩
  | true =>
    cases bn with
    | true =>
      cases be with
      | false =>
        go_enter Tryz.func13, Tryz.ntmps13
        go_wp2_with (first
          | (go_at_call 42; (with_reducible refine (HRI.out _).mono ?_); rintro _ u1 ⟨rfl, f1⟩; have HF1 := Lib.hid ((((Fr.refl No w).alloc _).alloc _).trans f1); have hI1 := (((Blk.new w 30 #[.int .i64 i1, .int .i64 i2]).alloc (.cells #[.int .i64 x0, .int .i64 x1, .int .i64 x2, .string x3, .string x4, .int .i64 x5, v, .int .i64 x7, .int .i64 x8, .string x9, .bool true, .slice A n c] 38)).fr f1 (fun h => h)); have hE0 := Blk.new (w.alloc (.cells #[.int .i64 i1, .int .i64 i2] 30)) 38 #[.int .i64 x0, .int .i64 x1, .int .i64 x2, .string x3, .string x4, .int .i64 x5, v, .int .i64 x7, .int .i64 x8, .string x9, .bool true, .slice A n c]; rw [World.size_alloc] at hE0; have hE1 := hE0.fr f1 (fun h => h); have y0 := hI1.cell 0; have y1 := hI1.cell 1; have z0 := hE1.cell 0; have z1 := hE1.cell 1; have z2 := hE1.cell 2; have z3 := hE1.cell 3; have z4 := hE1.cell 4; have z5 := hE1.cell 5; have z6 := hE1.cell 6; have z7 := hE1.cell 7; have z8 := hE1.cell 8; have z9 := hE1.cell 9; have z10 := hE1.cell 10; have z11 := hE1.cell 11; simp only [List.getElem?_toArray, List.getElem?_cons_zero, List.getElem?_cons_succ] at y0 y1 z0 z1 z2 z3 z4 z5 z6 z7 z8 z9 z10 z11; have HIB := Lib.hid hI1; have HEB := Lib.hid hE1; clear f1 hI1 hE0 hE1)
          | (go_at_call 43; (with_reducible refine (HSA.out _ HF1.out).mono ?_); rintro _ u2 ⟨rfl, f2⟩; have HF2 := Lib.hid (HF1.out.trans f2); clear f2))
        go_ret
        exact ⟨by rw [HRES.out]; rfl, HF2.out⟩
      | true =>
        go_enter Tryz.func13, Tryz.ntmps13
        go_wp2_with (first
          | (go_at_call 42; (with_reducible refine (HRI.out _).mono ?_); rintro _ u1 ⟨rfl, f1⟩; have HF1 := Lib.hid ((((Fr.refl No w).alloc _).alloc _).trans f1); have hI1 := (((Blk.new w 30 #[.int .i64 i1, .int .i64 i2]).alloc (.cells #[.int .i64 x0, .int .i64 x1, .int .i64 x2, .string x3, .string x4, .int .i64 x5, v, .int .i64 x7, .int .i64 x8, .string x9, .bool true, .slice A n c] 38)).fr f1 (fun h => h)); have hE0 := Blk.new (w.alloc (.cells #[.int .i64 i1, .int .i64 i2] 30)) 38 #[.int .i64 x0, .int .i64 x1, .int .i64 x2, .string x3, .string x4, .int .i64 x5, v, .int .i64 x7, .int .i64 x8, .string x9, .bool true, .slice A n c]; rw [World.size_alloc] at hE0; have hE1 := hE0.fr f1 (fun h => h); have y0 := hI1.cell 0; have y1 := hI1.cell 1; have z0 := hE1.cell 0; have z1 := hE1.cell 1; have z2 := hE1.cell 2; have z3 := hE1.cell 3; have z4 := hE1.cell 4; have z5 := hE1.cell 5; have z6 := hE1.cell 6; have z7 := hE1.cell 7; have z8 := hE1.cell 8; have z9 := hE1.cell 9; have z10 := hE1.cell 10; have z11 := hE1.cell 11; simp only [List.getElem?_toArray, List.getElem?_cons_zero, List.getElem?_cons_succ] at y0 y1 z0 z1 z2 z3 z4 z5 z6 z7 z8 z9 z10 z11; have HIB := Lib.hid hI1; have HEB := Lib.hid hE1; clear f1 hI1 hE0 hE1)
          | (go_at_call 43; (with_reducible refine (HSA.out _ HF1.out).mono ?_); rintro _ u2 ⟨rfl, f2⟩; have HF2 := Lib.hid (HF1.out.trans f2); have hI2 := HIB.out.fr f2 (fun h => h); have hE2 := HEB.out.fr f2 (fun h => h); have yy0 := hI2.cell 0; have yy1 := hI2.cell 1; have zz11 := hE2.cell 11; simp only [List.getElem?_toArray, List.getElem?_cons_zero, List.getElem?_cons_succ] at yy0 yy1 zz11; clear f2 hI2 hE2)
          | (go_at_call 44; (with_reducible refine (HRD.out _ HF2.out).mono ?_); rintro _ u3 ⟨rfl, f3⟩; have HF3 := Lib.hid (HF2.out.trans f3); clear f3))
        go_ret
        exact ⟨by rw [HRES.out]; first | rfl | simp, HF3.out⟩
    | false =>
      cases br with
      | false =>
        go_enter Tryz.func13, Tryz.ntmps13
        go_wp2_with (first
          | (go_at_call 42; (with_reducible refine (HRI.out _).mono ?_); rintro _ u1 ⟨rfl, f1⟩; have HF1 := Lib.hid ((((Fr.refl No w).alloc _).alloc _).trans f1); have hI1 := (((Blk.new w 30 #[.int .i64 i1, .int .i64 i2]).alloc (.cells #[.int .i64 x0, .int .i64 x1, .int .i64 x2, .string x3, .string x4, .int .i64 x5, v, .int .i64 x7, .int .i64 x8, .string x9, .bool false, .slice A n c] 38)).fr f1 (fun h => h)); have hE0 := Blk.new (w.alloc (.cells #[.int .i64 i1, .int .i64 i2] 30)) 38 #[.int .i64 x0, .int .i64 x1, .int .i64 x2, .string x3, .string x4, .int .i64 x5, v, .int .i64 x7, .int .i64 x8, .string x9, .bool false, .slice A n c]; rw [World.size_alloc] at hE0; have hE1 := hE0.fr f1 (fun h => h); have y0 := hI1.cell 0; have y1 := hI1.cell 1; have z0 := hE1.cell 0; have z1 := hE1.cell 1; have z2 := hE1.cell 2; have z3 := hE1.cell 3; have z4 := hE1.cell 4; have z5 := hE1.cell 5; have z6 := hE1.cell 6; have z7 := hE1.cell 7; have z8 := hE1.cell 8; have z9 := hE1.cell 9; have z10 := hE1.cell 10; have z11 := hE1.cell 11; simp only [List.getElem?_toArray, List.getElem?_cons_zero, List.getElem?_cons_succ] at y0 y1 z0 z1 z2 z3 z4 z5 z6 z7 z8 z9 z10 z11; have HIB := Lib.hid hI1; have HEB := Lib.hid hE1; clear f1 hI1 hE0 hE1)
          | (go_at_call 45; (with_reducible refine (HRO.out _ HF1.out).mono ?_); rintro _ u2 ⟨rfl, f2⟩; have HF2 := Lib.hid (HF1.out.trans f2); clear f2))
        go_ret
        exact ⟨by rw [HRES.out]; rfl, HF2.out⟩
      | true =>
        go_enter Tryz.func13, Tryz.ntmps13
        go_wp2_with (first
          | (go_at_call 42; (with_reducible refine (HRI.out _).mono ?_); rintro _ u1 ⟨rfl, f1⟩; have HF1 := Lib.hid ((((Fr.refl No w).alloc _).alloc _).trans f1); have hI1 := (((Blk.new w 30 #[.int .i64 i1, .int .i64 i2]).alloc (.cells #[.int .i64 x0, .int .i64 x1, .int .i64 x2, .string x3, .string x4, .int .i64 x5, v, .int .i64 x7, .int .i64 x8, .string x9, .bool false, .slice A n c] 38)).fr f1 (fun h => h)); have hE0 := Blk.new (w.alloc (.cells #[.int .i64 i1, .int .i64 i2] 30)) 38 #[.int .i64 x0, .int .i64 x1, .int .i64 x2, .string x3, .string x4, .int .i64 x5, v, .int .i64 x7, .int .i64 x8, .string x9, .bool false, .slice A n c]; rw [World.size_alloc] at hE0; have hE1 := hE0.fr f1 (fun h => h); have y0 := hI1.cell 0; have y1 := hI1.cell 1; have z0 := hE1.cell 0; have z1 := hE1.cell 1; have z2 := hE1.cell 2; have z3 := hE1.cell 3; have z4 := hE1.cell 4; have z5 := hE1.cell 5; have z6 := hE1.cell 6; have z7 := hE1.cell 7; have z8 := hE1.cell 8; have z9 := hE1.cell 9; have z10 := hE1.cell 10; have z11 := hE1.cell 11; simp only [List.getElem?_toArray, List.getElem?_cons_zero, List.getElem?_cons_succ] at y0 y1 z0 z1 z2 z3 z4 z5 z6 z7 z8 z9 z10 z11; have HIB := Lib.hid hI1; have HEB := Lib.hid hE1; clear f1 hI1 hE0 hE1)
          | (go_at_call 45; (with_reducible refine (HRO.out _ HF1.out).mono ?_); rintro _ u2 ⟨rfl, f2⟩; have HF2 := Lib.hid (HF1.out.trans f2); have hI2 := HIB.out.fr f2 (fun h => h); have hE2 := HEB.out.fr f2 (fun h => h); have yy0 := hI2.cell 0; have yy1 := hI2.cell 1; have zz11 := hE2.cell 11; simp only [List.getElem?_toArray, List.getElem?_cons_zero, List.getElem?_cons_succ] at yy0 yy1 zz11; clear f2 hI2 hE2)
          | (go_at_call 44; (with_reducible refine (HRD.out _ HF2.out).mono ?_); rintro _ u3 ⟨rfl, f3⟩; have HF3 := Lib.hid (HF2.out.trans f3); clear f3))
        go_ret
        exact ⟨by rw [HRES.out]; first | rfl | simp, HF3.out⟩
end Go.Proofs.YtcpgamidimfflaaGreat
namespace Go.Proofs.YtcpgamidimfflaaGreat
open Go.RowKit Go.My Go.Maps
set_option linter.unusedSimpArgs false
set_option linter.unusedVariables false
attribute [local go_sem ↓] Go.wp_at_zero Go.wp_at_succ
theorem sameE_iff (a b : En) : sameE a b = true ↔ a = b := by
  unfold sameE
  rw [Bool.and_eq_true, Bool.and_eq_true, beq_iff_eq, eqO_iff, decide_eq_true_iff]
  constructor
  · rintro ⟨h1, h2, h3⟩
    cases a; cases b
    simp only at h1 h2 h3
    rw [h1, h2, h3]
  · rintro rfl; exact ⟨rfl, rfl, rfl⟩
set_option maxRecDepth 100000 in
set_option maxHeartbeats 2000000 in
theorem same14_any (F G : Nat → Prop) (a b : En) (v u : Value) (A B : Option Addr) (c d : Nat) (w : World) (ha : EnS w F a v A c) (hb : EnS w G b u B d) (hl : a.deps.length ≤ 1000000) :
    Calls Tryz.prog 37 #[a.val v (.slice A a.deps.length c), b.val u (.slice B b.deps.length d)] w fun x w' => x = .returned (.bool (sameE a b)) ∧ Fr No w w' := by
  obtain ⟨res, hres⟩ : ∃ res, res = sameE a b := ⟨_, rfl⟩
  rw [← hres]
  unfold sameE at hres
  have HRES := Lib.hid hres
  have HSA : Hid (∀ W, Fr No w W → Calls Tryz.prog 43 #[.agg #[.int .i64 a.o.cl, .int .i64 a.o.sq, .int .i64 a.o.kd, .string a.o.acct, .string a.o.peer, .int .i64 a.o.sum, v, .int .i64 a.o.per, .int .i64 a.o.hold, .string a.o.note], .agg #[.int .i64 b.o.cl, .int .i64 b.o.sq, .int .i64 b.o.kd, .string b.o.acct, .string b.o.peer, .int .i64 b.o.sum, u, .int .i64 b.o.per, .int .i64 b.o.hold, .string b.o.note]] W fun x w' => x = .returned (.bool (eqO a.o b.o)) ∧ Fr No W w') := Lib.hid (fun W hW => osame_any F G a.o b.o v u W (ha.no hW).legs (hb.no hW).legs)
  have HEQ : Hid (∀ W, Fr No w W → Calls Tryz.prog 77 #[.slice A a.deps.length c, .slice B b.deps.length d] W fun x w' => x = .returned (.bool (decide (a.deps = b.deps))) ∧ Fr No W w') := Lib.hid (fun W hW => equalIn_any F G A B c d a.deps b.deps W (ha.no hW).deps (hb.no hW).deps hl)
  unfold En.val
  clear ha hb hres
  generalize eqO a.o b.o = be at *
  generalize decide (a.deps = b.deps) = bd at *
  generalize a.deps.length = n at *
  generalize b.deps.length = m at *
  generalize a.none = an at *
  generalize b.none = bn at *
  generalize a.o.cl = x0 at *
  generalize a.o.sq = x1 at *
  generalize a.o.kd = x2 at *
  generalize a.o.acct = x3 at *
  generalize a.o.peer = x4 at *
  generalize a.o.sum = x5 at *
  generalize a.o.per = x7 at *
  generalize a.o.hold = x8 at *
  generalize a.o.note = x9 at *
  generalize b.o.cl = y0 at *
  generalize b.o.sq = y1 at *
  generalize b.o.kd = y2 at *
  generalize b.o.acct = y3 at *
  generalize b.o.peer = y4 at *
  generalize b.o.sum = y5 at *
  generalize b.o.per = y7 at *
  generalize b.o.hold = y8 at *
  generalize b.o.note = y9 at *
  by_cases hn : an = bn
  · subst hn
    have hn2 : (an == an) = true := by simp
    rw [hn2] at HRES
    cases be with
    | false =>
      go_enter Tryz.func37, Tryz.ntmps37
      go_wp2_with (go_at_call 43; (with_reducible refine (HSA.out _ (((Fr.refl No w).alloc _).alloc _)).mono ?_); rintro _ u1 ⟨rfl, f1⟩; have HF1 := Lib.hid ((((Fr.refl No w).alloc _).alloc _).trans f1); clear f1)
      go_ret
      exact ⟨by rw [HRES.out]; rfl, HF1.out⟩
    | true =>
      go_enter Tryz.func37, Tryz.ntmps37
      go_wp2_with (first
        | (go_at_call 43; (with_reducible refine (HSA.out _ (((Fr.refl No w).alloc _).alloc _)).mono ?_); rintro _ u1 ⟨rfl, f1⟩; have HF1 := Lib.hid ((((Fr.refl No w).alloc _).alloc _).trans f1); have hA1 := ((Blk.new w 38 #[.int .i64 x0, .int .i64 x1, .int .i64 x2, .string x3, .string x4, .int .i64 x5, v, .int .i64 x7, .int .i64 x8, .string x9, .bool an, .slice A n c]).alloc (.cells #[.int .i64 y0, .int .i64 y1, .int .i64 y2, .string y3, .string y4, .int .i64 y5, u, .int .i64 y7, .int .i64 y8, .string y9, .bool an, .slice B m d] 38)).fr f1 (fun h => h); have hB0 := Blk.new (w.alloc (.cells #[.int .i64 x0, .int .i64 x1, .int .i64 x2, .string x3, .string x4, .int .i64 x5, v, .int .i64 x7, .int .i64 x8, .string x9, .bool an, .slice A n c] 38)) 38 #[.int .i64 y0, .int .i64 y1, .int .i64 y2, .string y3, .string y4, .int .i64 y5, u, .int .i64 y7, .int .i64 y8, .string y9, .bool an, .slice B m d]; rw [World.size_alloc] at hB0; have hB1 := hB0.fr f1 (fun h => h); have z0 := hA1.cell 11; have z1 := hB1.cell 11; simp only [List.getElem?_toArray, List.getElem?_cons_zero, List.getElem?_cons_succ] at z0 z1; clear f1 hA1 hB0 hB1)
        | (go_at_call 77; (with_reducible refine (HEQ.out _ HF1.out).mono ?_); rintro _ u2 ⟨rfl, f2⟩; have HF2 := Lib.hid (HF1.out.trans f2); clear f2))
      go_ret
      exact ⟨by rw [HRES.out]; first | rfl | simp, HF2.out⟩
  · have hn2 : (an == bn) = false := by simpa using hn
    rw [hn2] at HRES
    go_enter Tryz.func37, Tryz.ntmps37
    go_wp2
    go_ret
    exact ⟨by rw [HRES.out]; rfl, ((Fr.refl _ _).alloc _).alloc _⟩
end Go.Proofs.YtcpgamidimfflaaGreat
namespace Go.Proofs.YtcpgamidimfflaaGreat
open Go.RowKit Go.My Go.Maps
set_option linter.unusedSimpArgs false
set_option linter.unusedVariables false
theorem filter_ins (p : Ac → Bool) (b : Ac) (hp : p b = false) : ∀ S : List Ac, (insA b S).filter p = S.filter p
  | [] => by simp [insA, hp]
  | c :: r => by
    unfold insA
    split
    · rw [List.filter_cons, if_neg (by rw [hp]; decide)]
    · rw [List.filter_cons, List.filter_cons, filter_ins p b hp r]
theorem put_put (a b : Ac) (S : List Ac) (h : b.name = a.name) : putA a (putA b S) = putA a S := by
  unfold putA
  congr 1
  have hs : ∀ c : Ac, c.key.sameKey b.key = c.key.sameKey a.key := fun c => by
    show (c.name == b.name) = (c.name == a.name)
    rw [h]
  simp only [hs]
  rw [filter_ins _ b (by
    show (!(b.name == a.name)) = false
    rw [h]
    simp)]
  rw [List.filter_filter]
  simp
theorem put_back {S : List Ac} (hr : Rise S) {nm : List UInt8} {a b : Ac} (hg : getA S nm = some a) (hb : b.name = a.name) : putA a (putA b S) = S := by
  rw [put_put a b S hb]
  exact putA_self hr (by rw [(getA_some hg).2]; exact hg)
theorem act_err {S : List Ac} {f : Ac → Int} {g : Ac → Ac} {nm : List UInt8} (h : actE f S nm ≠ 0) : actS f g S nm = S := by
  unfold actE at h
  unfold actS
  cases hq : getA S nm with
  | none => rfl
  | some a => rw [hq] at h; simp only at h ⊢; rw [if_neg h]
end Go.Proofs.YtcpgamidimfflaaGreat
namespace Go.Proofs.YtcpgamidimfflaaGreat
open Go.RowKit Go.My Go.Maps
set_option linter.unusedSimpArgs false
set_option linter.unusedVariables false
def legE (S : List Ac) (g : Lg) : Int := if (getA S g.nm).isSome = false then 6 else if g.sum = -9223372036854775808 then 2 else actE (fun a => giveE a (-g.sum)) S g.nm
def legS (S : List Ac) (g : Lg) : List Ac := if legE S g = 0 then actS (fun a => giveE a (-g.sum)) (fun a => giveA a (-g.sum)) S g.nm else S
def legsE : List Ac → List Lg → Int
  | _, [] => 0
  | S, g :: r => if legE S g = 0 then legsE (legS S g) r else legE S g
def legsS : List Ac → List Lg → List Ac
  | S, [] => S
  | S, g :: r => if legE S g = 0 then legsS (legS S g) r else S
def checkE (S : List Ac) (L : List Lg) : Int := if rightB L = false then 1 else if total (sums L) = 0 then legsE S L else 8
def makeS (S : List Ac) (L : List Lg) : List Ac := if checkE S L = 0 then legsS S L else S
theorem inv_give {S : List Ac} (h : Inv S) (nm : List UInt8) (x : Int) : Inv (actS (fun a => giveE a x) (fun a => giveA a x) S nm) :=
  inv_act h _ _ _ (ok_give x) (fun a => giveA_name a x)
theorem inv_leg {S : List Ac} (h : Inv S) (g : Lg) : Inv (legS S g) := by
  unfold legS
  split
  · exact inv_give h _ _
  · exact h
theorem leg_some {S : List Ac} {g : Lg} (h : legE S g = 0) : ∃ a, getA S g.nm = some a ∧ In64 (a.hv + g.sum) ∧ g.sum ≠ -9223372036854775808 ∧ (0 < -g.sum → freeB a (-g.sum) = true) ∧ legS S g = putA { a with hv := a.hv + g.sum } S := by
  have h0 := h
  unfold legE at h
  cases hq : getA S g.nm with
  | none => rw [hq] at h; simp at h
  | some a =>
    rw [hq] at h
    simp only [Option.isSome_some, Bool.true_eq_false, if_false] at h
    split at h
    · cases h
    · rename_i hmin
      unfold actE at h
      rw [hq] at h
      simp only at h
      have hin : In64 (a.hv - -g.sum) := by
        unfold giveE at h
        split at h
        · assumption
        · cases h
      refine ⟨a, rfl, by rw [Int.sub_neg] at hin; exact hin, hmin, fun hpos => ?_, ?_⟩
      · unfold giveE at h
        rw [if_pos hin] at h
        cases hf : freeB a (-g.sum)
        · rw [if_pos ⟨hpos, hf⟩] at h; cases h
        · rfl
      · unfold legS actS
        rw [if_pos h0, hq]
        simp only
        rw [if_pos h]
        unfold giveA
        rw [if_pos h, Int.sub_neg]
theorem leg_other (S : List Ac) (g : Lg) (k : List UInt8) (hk : k ≠ g.nm) : getA (legS S g) k = getA S k := by
  by_cases h : legE S g = 0
  · obtain ⟨a, ha, _, _, _, he⟩ := leg_some h
    rw [he]
    exact getA_put_other S _ k (by simpa [(getA_some ha).2] using hk)
  · unfold legS
    rw [if_neg h]
end Go.Proofs.YtcpgamidimfflaaGreat
namespace Go.Proofs.YtcpgamidimfflaaGreat
open Go.RowKit Go.My Go.Maps
set_option linter.unusedSimpArgs false
set_option linter.unusedVariables false
structure AcI where
  name : ByteArray
  hv : Int
  st : Int
  lim : Int
def AcI.ok (a : AcI) : Prop := a.name.size ≤ maxLen ∧ In64 a.hv ∧ In64 a.st ∧ In64 a.lim
section
open Go.ChangeShapes Go.WideShapes
variable {H : Type} {enc : TypeId × Value → H} {w : World} {base : Nat} {spare : Nat → Bool} {held : Bool}
end
end Go.Proofs.YtcpgamidimfflaaGreat
