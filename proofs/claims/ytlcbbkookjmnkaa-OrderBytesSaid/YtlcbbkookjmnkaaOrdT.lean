/- The accounts that an order names rise, each once: the walk. -/
import Derived.Test.YtlcbbkookjmnkaaOrdL
import Derived.Test.YtlcbbkookjmnkaaOrdI
import Derived.Sort.Walk0
namespace Go.Proofs.Ytlcbbkookjmnkaa
open Go.RowKit Go.My Go.Maps Go.Sort Go.Lib
set_option linter.unusedSimpArgs false
set_option linter.unusedVariables false
attribute [local go_sem ↓] Go.wp_at_zero Go.wp_at_succ

theorem ts_at {w : World} {F : Nat → Prop} {A : Option Addr} {n : Nat} {L : List (List UInt8)} (h : Rd w F 1 A n (ts L)) (k : Nat) (hk : k < n) : ∃ ad, ∃ hl : k < L.length, A = some ad ∧ F ad.block ∧ w.cell? (ad.add k) = some (.string ⟨L[k].toArray⟩) := by
  obtain ⟨ad, rfl, hF, hc⟩ := h.2 (by omega)
  have hl : k < L.length := by have := h.1; rw [ts_length] at this; omega
  exact ⟨ad, hl, rfl, hF, hc k _ (ts_get L k hl)⟩
def hasB (L : List (List UInt8)) (s : List UInt8) : Bool := decide (s ∈ L)
def HsRel (w : World) (L : List (List UInt8)) (s : List UInt8) (iv : Value) (wr : World) : Prop := ∃ k : Nat, k ≤ L.length ∧ iv = .int .i64 k ∧ (∀ x ∈ L.take k, x ≠ s) ∧ wr = w
set_option maxRecDepth 100000 in
theorem has_any (F : Nat → Prop) (A : Option Addr) (c : Nat) (L : List (List UInt8)) (s : List UInt8) (w : World) (hr : Rd w F 1 A L.length (ts L)) (hl : L.length ≤ 1000000) :
    Calls Try.prog 30 #[.slice A L.length c, .string ⟨s.toArray⟩] w fun e w' => e = .returned (.bool (hasB L s)) ∧ w' = w := by
  have HT : Hid (s ∈ L → hasB L s = true) := fun h => decide_eq_true h
  have HN : Hid (s ∉ L → hasB L s = false) := fun h => decide_eq_false h
  generalize hasB L s = res at *
  have HR := Lib.hid hr
  have HL := Lib.hid hl
  clear hr hl
  go_enter Try.func30, Try.ntmps30
  go_wp2
  go_loopw [5] (fun iv wr => HsRel w L s iv wr) (fun iv _ => L.length - (intOf iv).toNat)
  case atStart => exact ⟨0, Nat.zero_le _, rfl, fun x hx => by simp at hx, rfl⟩
  case round =>
    obtain ⟨k, hk, rfl, hno, rfl⟩ := hrel
    have hk62 : (k : Int) < 9223372036854775807 := by have := HL.out; omega
    by_cases hlt : k < L.length
    · obtain ⟨ad, hl, rfl, _, q0⟩ := ts_at HR.out k hlt
      have HTK : Hid (L.take (k + 1) = L.take k ++ [L[k]]) := List.take_succ_eq_append_getElem hlt
      have HM : Hid (L[k] ∈ L) := List.getElem_mem hlt
      have HNO := Lib.hid hno
      have HLT : Hid (k + 1 ≤ L.length) := hlt
      generalize L[k] = x at *
      clear hno
      by_cases hx : x = s
      · subst hx
        obtain rfl : res = true := HT.out HM.out
        go_wp2
        go_ret
        exact ⟨rfl, rfl⟩
      · have hz1 : (x == s) = false := beq_eq_false_iff_ne.2 hx
        have hz2 : ((⟨x.toArray⟩ : ByteArray).toList == (⟨s.toArray⟩ : ByteArray).toList) = false := by rw [ByteArray.toList_eq, ByteArray.toList_eq]; exact hz1
        have HX := Lib.hid hx
        clear hx
        go_wp2
        go_roundw
        case rel =>
          refine ⟨k + 1, HLT.out, by go_num, fun y hy => ?_, rfl⟩
          rw [HTK.out, List.mem_append, List.mem_singleton] at hy
          rcases hy with hy | hy
          · exact HNO.out y hy
          · rw [hy]; exact HX.out
        case measure => have := HLT.out; simp [intOf]; omega
    · obtain rfl : k = L.length := by omega
      obtain rfl : res = false := HN.out (by
        rw [List.take_length] at hno
        exact fun h => hno s h rfl)
      clear hno
      go_wp2
      go_ret
      exact ⟨rfl, rfl⟩

/-! ### what is known of the accounts that an order names -/
theorem touch_mem (o : Od) (s : List UInt8) : s ∈ touchL o ↔ s ∈ allN o o.legs.length ∧ s ≠ [] := by
  unfold touchL
  rw [(upOf_spec _).2 s]
  unfold namesO
  rw [List.mem_filter]
  cases s <;> simp
theorem touch_up (o : Od) : Up (touchL o) := (upOf_spec _).1
theorem touch_length (o : Od) : (touchL o).length ≤ 2 + o.legs.length := by
  refine Nat.le_trans (upOf_length _) ?_
  unfold namesO
  refine Nat.le_trans (List.length_filter_le _ _) ?_
  rw [allN_length _ _ (Nat.le_refl _)]
  exact Nat.le_refl _
theorem touch_step {L : List (List UInt8)} (h : Up L) (k : Nat) (hk : k < L.length) (h0 : 0 < k) : L[k - 1] < L[k] := List.pairwise_iff_getElem.1 h (k - 1) k (by omega) hk (by omega)
theorem nameB_nil : nameB [] = false := by rfl
theorem touch_none {o : Od} (h : rightO o = true) : ((touchL o).length = 0) ↔ o.kd = 6 := by
  have hm := touch_mem o
  have hx : (touchL o).length = 0 ↔ ∀ s, s ∈ allN o o.legs.length → s = [] := by
    rw [List.length_eq_zero_iff, List.eq_nil_iff_forall_not_mem]
    constructor
    · intro h s hs
      exact Decidable.byContradiction fun hn => h s ((hm s).2 ⟨hs, hn⟩)
    · intro h s hs
      have := (hm s).1 hs
      exact this.2 (h s this.1)
  rw [hx]
  clear hm hx
  obtain ⟨cl, sq, kd, acct, peer, sum, legs, per, hold, note⟩ := o
  unfold rightO acctB peerB sumB legsB perB holdB noteB at h
  simp only [Bool.and_eq_true, decide_eq_true_eq] at h
  obtain ⟨h1, h2, _, ha, hp, _, hl, _⟩ := h
  have hc : kd = 1 ∨ kd = 2 ∨ kd = 3 ∨ kd = 4 ∨ kd = 5 ∨ kd = 6 ∨ kd = 7 := by omega
  have hA : ∀ s, nameB s = true → s ≠ [] := fun s hs e => by rw [e, nameB_nil] at hs; cases hs
  have key : kd ≠ 6 → kd ≠ 2 → ¬ ∀ s, s ∈ allN ⟨cl, sq, kd, acct, peer, sum, legs, per, hold, note⟩ legs.length → s = [] := fun h6 h2 hall => by
    rw [if_neg (by omega)] at ha
    exact hA _ ha (hall _ (by unfold allN; simp))
  constructor
  · intro hall
    refine Decidable.byContradiction fun h6 => ?_
    simp only at h6
    by_cases hk2 : kd = 2
    · subst hk2
      simp only [if_true] at hl
      unfold rightB at hl
      simp only [Bool.and_eq_true, decide_eq_true_eq] at hl
      obtain ⟨⟨⟨l2, _⟩, hg⟩, _⟩ := hl
      match legs, l2, hg, hall with
      | g :: r, _, hg, hall =>
        rw [List.all_cons, Bool.and_eq_true, Bool.and_eq_true] at hg
        refine hA _ hg.1.1 (hall g.nm ?_)
        unfold allN
        simp
    · exact key h6 hk2 hall
  · intro h6 s hs
    simp only at h6
    subst h6
    simp at ha hp hl
    unfold allN at hs
    simp only [Od.an, Od.pn] at ha hp hs
    simp [hl] at hs
    rcases hs with rfl | rfl
    · simp [ha]
    · simp [hp]
theorem less_at {L : List (List UInt8)} (h : Up L) (k : Nat) (hk : k < L.length) (h0 : 0 < k) : Op.bytesLess L[k - 1] L[k] = true := by
  rw [bytesLess_eq]
  exact decide_eq_true (touch_step h k hk h0)
def LpRel (n : Nat) (w : World) (iv : Value) (wr : World) : Prop := ∃ k : Nat, k ≤ n ∧ iv = .int .i64 k ∧ Fr No w wr
def LqRel (n : Nat) (w : World) (iv : Value) (wr : World) : Prop := ∃ k : Nat, k ≤ n ∧ iv = .int .i64 k ∧ wr = w
theorem RetTrue.of {w w' : World} (h : Below w.heap.size w w') : RetTrue w (.returned (.bool true)) w' := ⟨rfl, h⟩
set_option maxRecDepth 100000 in
set_option maxHeartbeats 600000 in
theorem orderTouches_walk (v : Value) (o : Od) (u : Value) (w : World) (hv : v = o.val u ∧ OdI w o u) :
    Calls Try.prog 8 #[v] w (RetTrue w) := by
  obtain ⟨rfl, hok, hgok, hlg⟩ := hv
  obtain ⟨A0, c0, rfl, h01, h02⟩ := hlg.form
  obtain ⟨cl, sq, kd, acct, peer, sum, L, per, hold, note⟩ := o
  have HFEW : Hid (∀ W, Below w.heap.size w W → _) := fun W hW => few_cs (Lt w.heap.size) cl sq kd acct peer sum L per hold note (.slice A0 L.length c0) W (hlg.below hW)
  have hpok : Od.ok ⟨cl, sq, kd, acct, peer, sum, L.take 10, per, hold, note⟩ := hok
  have h10 : (L.take 10).length ≤ 10 := by rw [List.length_take]; omega
  have hb0 := Blk.new w 26 #[.int .i64 cl, .int .i64 sq, .int .i64 kd, .string acct, .string peer, .int .i64 sum, .slice A0 L.length c0, .int .i64 per, .int .i64 hold, .string note]
  unfold Od.val Od.cs
  simp only
  go_enter Try.func8, Try.ntmps8
  go_wp2_with fail
  refine (lives6 _).mono ?_
  rintro e w1 ⟨rfl, hb1⟩
  have hB1 : Below w.heap.size w w1 := ((Fr.refl No w).alloc _).belowNo.trans (hb1.mono (by simp))
  have hx1 := hb0.below hb1 (by simp)
  have x0 := hx1.cell 0
  have x1 := hx1.cell 1
  have x2 := hx1.cell 2
  have x3 := hx1.cell 3
  have x4 := hx1.cell 4
  have x5 := hx1.cell 5
  have x6 := hx1.cell 6
  have x7 := hx1.cell 7
  have x8 := hx1.cell 8
  have x9 := hx1.cell 9
  simp only [List.getElem?_toArray, List.getElem?_cons_zero, List.getElem?_cons_succ] at x0 x1 x2 x3 x4 x5 x6 x7 x8 x9
  go_wp2_with fail
  refine (HFEW.out w1 hB1).mono ?_
  rintro e w2 ⟨A2, c2, rfl, hl2, hf2⟩
  clear HFEW
  generalize L.take 10 = M at *
  have HF2 := Lib.hid hf2
  have HL2 := Lib.hid hl2
  clear hl2 hok hgok hlg h01 h02 hb0 hb1
  have hx2 := hx1.fr hf2 (fun h => h)
  clear x0 x1 x2 x3 x4 x5 x6 x7 x8 x9
  have x0 := hx2.cell 0
  have x1 := hx2.cell 1
  have x2 := hx2.cell 2
  have x3 := hx2.cell 3
  have x4 := hx2.cell 4
  have x5 := hx2.cell 5
  have x6 := hx2.cell 6
  have x7 := hx2.cell 7
  have x8 := hx2.cell 8
  have x9 := hx2.cell 9
  simp only [List.getElem?_toArray, List.getElem?_cons_zero, List.getElem?_cons_succ] at x0 x1 x2 x3 x4 x5 x6 x7 x8 x9
  have g0 := hx2.frozen 0
  have g1 := hx2.frozen 1
  have g2 := hx2.frozen 2
  have g3 := hx2.frozen 3
  have g4 := hx2.frozen 4
  have g5 := hx2.frozen 5
  have g6 := hx2.frozen 6
  have g7 := hx2.frozen 7
  have g8 := hx2.frozen 8
  have g9 := hx2.frozen 9
  go_upto_region 4 with (fail)
  obtain ⟨hx3, hf3⟩ := set10 hx2 (.int .i64 cl) (.int .i64 sq) (.int .i64 kd) (.string acct) (.string peer) (.int .i64 sum) (.slice A2 M.length c2) (.int .i64 per) (.int .i64 hold) (.string note)
  have HB3 : Hid (Below w.heap.size w ((((((((((w2.setCell ⟨w.heap.size, 0, none⟩ (Value.int IntKind.i64 cl)).setCell ⟨w.heap.size, 1, none⟩ (Value.int IntKind.i64 sq)).setCell ⟨w.heap.size, 2, none⟩ (Value.int IntKind.i64 kd)).setCell ⟨w.heap.size, 3, none⟩ (Value.string acct)).setCell ⟨w.heap.size, 4, none⟩ (Value.string peer)).setCell ⟨w.heap.size, 5, none⟩ (Value.int IntKind.i64 sum)).setCell ⟨w.heap.size, 6, none⟩ (Value.slice A2 M.length c2)).setCell ⟨w.heap.size, 7, none⟩ (Value.int IntKind.i64 per)).setCell ⟨w.heap.size, 8, none⟩ (Value.int IntKind.i64 hold)).setCell ⟨w.heap.size, 9, none⟩ (Value.string note))) := below_fr (below_fr_no hB1 HF2.out hB1.size) hf3 (below_fr_no hB1 HF2.out hB1.size).size (fun i hi => by rw [At1] at hi; omega)
  have HL3 : Hid (LgS ((((((((((w2.setCell ⟨w.heap.size, 0, none⟩ (Value.int IntKind.i64 cl)).setCell ⟨w.heap.size, 1, none⟩ (Value.int IntKind.i64 sq)).setCell ⟨w.heap.size, 2, none⟩ (Value.int IntKind.i64 kd)).setCell ⟨w.heap.size, 3, none⟩ (Value.string acct)).setCell ⟨w.heap.size, 4, none⟩ (Value.string peer)).setCell ⟨w.heap.size, 5, none⟩ (Value.int IntKind.i64 sum)).setCell ⟨w.heap.size, 6, none⟩ (Value.slice A2 M.length c2)).setCell ⟨w.heap.size, 7, none⟩ (Value.int IntKind.i64 per)).setCell ⟨w.heap.size, 8, none⟩ (Value.int IntKind.i64 hold)).setCell ⟨w.heap.size, 9, none⟩ (Value.string note)) (Lt w.heap.size) (.slice A2 M.length c2) M) := by
    obtain ⟨B, d, cells, e1, e2, e3⟩ := HL2.out
    exact ⟨B, d, cells, e1, e2.fr (by omega) hf3 (fun k hk _ hs => by rw [At1] at hs; rw [hs] at hk; exact absurd hk (Nat.lt_irrefl _)), e3⟩
  clear hx2 hx1 HL2 HF2 hB1 hf3 hf2 x0 x1 x2 x3 x4 x5 x6 x7 x8 x9 g0 g1 g2 g3 g4 g5 g6 g7 g8 g9
  generalize ((((((((((w2.setCell ⟨w.heap.size, 0, none⟩ (Value.int IntKind.i64 cl)).setCell ⟨w.heap.size, 1, none⟩ (Value.int IntKind.i64 sq)).setCell ⟨w.heap.size, 2, none⟩ (Value.int IntKind.i64 kd)).setCell ⟨w.heap.size, 3, none⟩ (Value.string acct)).setCell ⟨w.heap.size, 4, none⟩ (Value.string peer)).setCell ⟨w.heap.size, 5, none⟩ (Value.int IntKind.i64 sum)).setCell ⟨w.heap.size, 6, none⟩ (Value.slice A2 M.length c2)).setCell ⟨w.heap.size, 7, none⟩ (Value.int IntKind.i64 per)).setCell ⟨w.heap.size, 8, none⟩ (Value.int IntKind.i64 hold)).setCell ⟨w.heap.size, 9, none⟩ (Value.string note)) = w3 at *
  have x0 := hx3.cell 0
  have x1 := hx3.cell 1
  have x2 := hx3.cell 2
  have x3 := hx3.cell 3
  have x4 := hx3.cell 4
  have x5 := hx3.cell 5
  have x6 := hx3.cell 6
  have x7 := hx3.cell 7
  have x8 := hx3.cell 8
  have x9 := hx3.cell 9
  simp only [List.getElem?_toArray, List.getElem?_cons_zero, List.getElem?_cons_succ] at x0 x1 x2 x3 x4 x5 x6 x7 x8 x9
  have HTO := Lib.hid (touches_any _ ⟨cl, sq, kd, acct, peer, sum, M, per, hold, note⟩ _ w3 HL3.out (by simp only; omega))
  have HRI : Hid (∀ W, Fr No w3 W → Calls Try.prog 13 #[Od.val ⟨cl, sq, kd, acct, peer, sum, M, per, hold, note⟩ (.slice A2 M.length c2)] W fun e w' => e = .returned (.bool (rightO ⟨cl, sq, kd, acct, peer, sum, M, per, hold, note⟩)) ∧ Fr No W w') := fun W hW =>
    rightO_any _ ⟨cl, sq, kd, acct, peer, sum, M, per, hold, note⟩ _ W hpok (HL3.out.no hW)
  unfold Od.val Od.cs at HTO HRI
  simp only at HTO HRI
  have HX3 := Lib.hid hx3
  have HTL : Hid ((touchL ⟨cl, sq, kd, acct, peer, sum, M, per, hold, note⟩).length ≤ 12) := by
    have := touch_length ⟨cl, sq, kd, acct, peer, sum, M, per, hold, note⟩
    show _ ≤ _
    simp only at this
    omega
  have HTM := Lib.hid (touch_mem ⟨cl, sq, kd, acct, peer, sum, M, per, hold, note⟩)
  have HTU := Lib.hid (touch_up ⟨cl, sq, kd, acct, peer, sum, M, per, hold, note⟩)
  have HTN := Lib.hid (fun h => touch_none (o := ⟨cl, sq, kd, acct, peer, sum, M, per, hold, note⟩) h)
  generalize touchL ⟨cl, sq, kd, acct, peer, sum, M, per, hold, note⟩ = T at *
  clear hpok
  go_wp2_with fail
  refine HTO.out.mono ?_
  rintro e w4 ⟨v4, rfl, ho4, hf4, hn4⟩
  obtain ⟨A4, c4, rfl, _, hc4⟩ := ho4.form
  have hg4 := fr_at_none hf4
  have hx4 := HX3.out.fr hg4 (fun h => h)
  have HL4 := Lib.hid (HL3.out.no hg4)
  have HB4 := Lib.hid (below_fr_no HB3.out hg4 HB3.out.size)
  have HO4 := Lib.hid ho4
  have HG4 := Lib.hid hg4
  clear HTO HX3 HL3 HB3 hx3 hf4 hn4 hg4 ho4 hc4 x0 x1 x2 x3 x4 x5 x6 x7 x8 x9
  have x3 := hx4.cell 3
  have x4 := hx4.cell 4
  simp only [List.getElem?_toArray, List.getElem?_cons_zero, List.getElem?_cons_succ] at x3 x4
  go_upto_region 6 with (fail)
  have hf5 : Fr No w4 (w4.alloc (.cells #[.string acct, .string peer] 9)) := (Fr.refl _ _).alloc _
  have ho := own_two w4 9 (.string acct) (.string peer)
  have hb5 := hx4.alloc (.cells #[.string acct, .string peer] 9)
  have hnew : Newer w4.heap.size none (Value.slice (some ⟨w4.heap.size, 0, none⟩) 2 2).ownBlock := .inr ⟨_, rfl, Nat.le_refl _⟩
  generalize hw5 : w4.alloc (.cells #[.string acct, .string peer] 9) = w5 at *
  clear hw5
  have H0 : Hid (TcRel w4 ⟨cl, sq, kd, acct, peer, sum, M, per, hold, note⟩ (.slice (some ⟨w4.heap.size, 0, none⟩) 2 2) (.int .i64 0) w5) :=
    ⟨0, some ⟨w4.heap.size, 0, none⟩, 2, Nat.zero_le _, rfl, rfl, by rw [show allN ⟨cl, sq, kd, acct, peer, sum, M, per, hold, note⟩ 0 = [acct.data.toList, peer.data.toList] from rfl]; exact ho, hf5, hnew⟩
  have HX4 := Lib.hid hx4
  clear hf5 ho hb5 hnew x3 x4 hx4
  go_wp2_with fail
  go_loopw [4, 5] (fun v iv wr => TcRel w4 ⟨cl, sq, kd, acct, peer, sum, M, per, hold, note⟩ v iv wr) (fun _ iv _ => M.length - (intOf iv).toNat)
  case atStart => exact H0.out
  case round =>
    obtain ⟨k, A, c, hk, rfl, rfl, hown, hfr, hnew⟩ := hrel
    simp only at hk
    have hxr := HX4.out.fr hfr (fun h => h)
    have x6 := hxr.cell 6
    simp only [List.getElem?_toArray, List.getElem?_cons_zero, List.getElem?_cons_succ] at x6
    by_cases hlt : k < M.length
    · obtain ⟨VA, vc, cells, e0, hr, hE, _, _⟩ := HL4.out.no hfr
      cases e0
      obtain ⟨ad, rfl, _, hok, q0, q1⟩ := lg_at hr hE k hlt hlt
      have HAN : Hid (allN ⟨cl, sq, kd, acct, peer, sum, M, per, hold, note⟩ (k + 1) = allN ⟨cl, sq, kd, acct, peer, sum, M, per, hold, note⟩ k ++ [M[k].nm]) := allN_next _ k hlt
      generalize M[k] = g at *
      obtain ⟨nm, sm⟩ := g
      simp only at q0 q1
      have HOWN := Lib.hid hown
      have HFR := Lib.hid hfr
      have HNEW := Lib.hid hnew
      have HLT : Hid (k + 1 ≤ M.length) := hlt
      have hk62 : (k : Int) < 9223372036854775807 := by omega
      have HBD : Hid (2 + k + 1 ≤ maxLen ∧ (2 + k + 1) * 16 ≤ 140737488355328) := ⟨by unfold maxLen; omega, by omega⟩
      clear hown hfr hnew hok hr hE hxr
      go_wp2_with (at_builtin; refine wpList_app _ rfl (.tmp 26) (.tmp 33) 39 39 rfl elS (HOWN.out.alloc _) rfl (Src.of_new wr.heap.size (heap_alloc_new wr _) Try.underlying39 rfl (by simp [Value.oneCell'])) rfl HBD.out.1 HBD.out.2 ?_; intro v1 w6 hown1 hfr1 hnew1)
      go_roundw
      case rel =>
        obtain ⟨A1, c1, rfl, _, _⟩ := hown1.form
        have hfo := (Fr.refl No wr).alloc (.cells #[.string nm] 9)
        have := HLT.out
        refine ⟨k + 1, A1, c1, by simp only; omega, by simp only [Nat.add_assoc], by go_num, ?_, ?_, ?_⟩
        · rw [HAN.out, ts_append, ← Nat.add_assoc]
          exact hown1
        · exact fr_no (HFR.out.trans hfo) HNEW.out hfr1
        · rw [← Nat.add_assoc]
          refine HNEW.out.trans (Newer.of hnew1) ?_
          have := HFR.out.size
          simp
          omega
      case measure => have := HLT.out; simp [intOf]; omega
    · obtain rfl : k = M.length := by omega
      have hlen : (allN ⟨cl, sq, kd, acct, peer, sum, M, per, hold, note⟩ M.length).length = 2 + M.length := allN_length _ _ (Nat.le_refl _)
      have HO5 := Lib.hid (HO4.out.fr hfr (fun _ _ h => h))
      have HRIQ : Hid (∀ W, Fr No wr W → _) := fun W hW => HRI.out W (HG4.out.trans (hfr.trans hW))
      have HBR := Lib.hid (below_fr_no HB4.out hfr HB4.out.size)
      generalize allN ⟨cl, sq, kd, acct, peer, sum, M, per, hold, note⟩ M.length = N at *
      rw [← hlen] at hown
      have hNl : N.length ≤ 12 := by omega
      have HOWN := Lib.hid hown
      rw [← hlen]
      have HXR := Lib.hid hxr
      have HTA : Hid (∀ x ∈ T, x ≠ [] ∧ x ∈ N) := fun x hx => by
        have := (HTM.out x).1 hx
        exact ⟨this.2, this.1⟩
      have HAT : Hid (∀ x ∈ N, x ≠ [] → x ∈ T) := fun x hx hn => (HTM.out x).2 ⟨hx, hn⟩
      clear hown hfr hnew hxr hlen hk hlt HRI HX4 HL4 HB4 HO4 HG4 H0 HTM
      generalize wr = w6 at *
      go_wp2_with fail
      go_loopw [6] (fun iv wr => LpRel T.length w6 iv wr) (fun iv _ => T.length - (intOf iv).toNat)
      case atStart => exact ⟨0, Nat.zero_le _, rfl, Fr.refl _ _⟩
      case round =>
        obtain ⟨k, hk, rfl, hfs⟩ := hrel
        have HFS := Lib.hid hfs
        have hos := HO5.out.fr hfs (fun _ _ h => h)
        have hns := HOWN.out.fr hfs (fun _ _ h => h)
        have x6 := (HXR.out.fr hfs (fun h => h)).cell 6
        simp only [List.getElem?_toArray, List.getElem?_cons_zero, List.getElem?_cons_succ] at x6
        clear hfs
        have hk62 : (k : Int) < 9223372036854775807 := by have := HTL.out; omega
        by_cases hlt : k < T.length
        · obtain ⟨ad, hl, e1, _, q0⟩ := ts_at hos.rd k hlt
          cases e1
          have HLT : Hid (k + 1 ≤ T.length) := hlt
          have hT := HTA.out T[k] (List.getElem_mem hlt)
          have HHAS : ∀ n, Calls Try.prog 30 #[.slice A N.length c, .string ⟨(T[k]).toArray⟩] (wr.drewN n) fun e w' => e = .returned (.bool true) ∧ w' = wr.drewN n := fun n => by
            have h := has_any _ A c N T[k] (wr.drewN n) (hns.drewN n).rd (by omega)
            have hin : hasB N T[k] = true := decide_eq_true hT.2
            exact h.mono fun e w' hh => ⟨by rw [hh.1, hin], hh.2⟩
          have hne1 : (T[k] == []) = false := beq_eq_false_iff_ne.2 hT.1
          have hne2 : ((⟨(T[k]).toArray⟩ : ByteArray).toList == []) = false := by rw [ByteArray.toList_eq]; exact hne1
          by_cases h0 : 0 < k
          · obtain ⟨ad2, hl2, e2, _, q1⟩ := ts_at hos.rd (k - 1) (by omega)
            cases e2
            have hls := less_at HTU.out k hlt h0
            have hls2 : Op.bytesLess (⟨(T[k - 1]).toArray⟩ : ByteArray).toList (⟨(T[k]).toArray⟩ : ByteArray).toList = true := by rw [ByteArray.toList_eq, ByteArray.toList_eq]; exact hls
            generalize T[k] = x at *
            generalize T[k - 1] = y at *
            have hd0 : decide (0 < k) = true := decide_eq_true h0
            have i1 : IntKind.i64.wrap ((k : Int) - 1) = (k : Int) - 1 := IntWalk.i64_in _ (by omega)
            have i2 : (0 : Int) ≤ (k : Int) - 1 := by omega
            have i3 : ((k : Int) - 1).toNat = k - 1 := by omega
            have i4 : k - 1 < T.length := by omega
            have i5 : (k : Int) - 1 < (T.length : Int) := by omega
            clear hT hos hns
            go_wp2
            go_quiet (first | (go_at_call 30; exact Calls.quiet_of_same (HHAS _)))
            go_wp2
            go_roundw
            case rel => exact ⟨k + 1, HLT.out, by go_num, HFS.out.drewN _⟩
            case measure => have := HLT.out; simp [intOf]; omega
          · generalize T[k] = x at *
            have hd0 : decide (0 < k) = false := decide_eq_false h0
            clear hT hos hns
            go_wp2
            go_quiet (first | (go_at_call 30; exact Calls.quiet_of_same (HHAS _)))
            go_wp2
            go_roundw
            case rel => exact ⟨k + 1, HLT.out, by go_num, HFS.out.drewN _⟩
            case measure => have := HLT.out; simp [intOf]; omega
        · obtain rfl : k = T.length := by omega
          have HOS := Lib.hid hos
          have HNS := Lib.hid hns
          have HXS := Lib.hid (HXR.out.fr HFS.out (fun h => h))
          have HRS := Lib.hid (HRIQ.out wr HFS.out)
          have HBS := Lib.hid (below_fr_no HBR.out HFS.out HBR.out.size)
          clear hos hns hlt HXR HRIQ HBR HFS HOWN HO5 hk
          generalize wr = w7 at *
          go_wp2_with fail
          go_loopw [7] (fun iv wr => LqRel N.length w7 iv wr) (fun iv _ => N.length - (intOf iv).toNat)
          case atStart => exact ⟨0, Nat.zero_le _, rfl, rfl⟩
          case round =>
            obtain ⟨k, hk, rfl, rfl⟩ := hrel
            have hk62 : (k : Int) < 9223372036854775807 := by omega
            by_cases hlt : k < N.length
            · obtain ⟨ad, hl, e1, _, q0⟩ := ts_at HNS.out.rd k hlt
              cases e1
              have HLT : Hid (k + 1 ≤ N.length) := hlt
              have hin0 : N[k] ≠ [] → hasB T N[k] = true := fun hx => decide_eq_true (HAT.out _ (List.getElem_mem hlt) hx)
              have HHAS0 := Lib.hid (has_any _ A4 c4 T N[k] wr HOS.out.rd (by have := HTL.out; omega))
              generalize N[k] = x at *
              by_cases hx : x = []
              · subst hx
                clear hin0 HHAS0
                go_wp2
                go_roundw
                case rel => exact ⟨k + 1, HLT.out, by go_num, rfl⟩
                case measure => have := HLT.out; simp [intOf]; omega
              · have hne1 : (x == []) = false := beq_eq_false_iff_ne.2 hx
                have hne2 : ((⟨x.toArray⟩ : ByteArray).toList == []) = false := by rw [ByteArray.toList_eq]; exact hne1
                have hin := hin0 hx
                have HHAS := Lib.hid HHAS0.out
                rw [hin] at HHAS
                clear hin0 HHAS0
                clear hx hin
                go_wp2_with fail
                refine HHAS.out.mono ?_
                rintro e w8 ⟨rfl, rfl⟩
                go_wp2
                go_roundw
                case rel => exact ⟨k + 1, HLT.out, by go_num, rfl⟩
                case measure => have := HLT.out; simp [intOf]; omega
            · obtain rfl : k = N.length := by omega
              have x0 := HXS.out.cell 0
              have x1 := HXS.out.cell 1
              have x2 := HXS.out.cell 2
              have x3 := HXS.out.cell 3
              have x4 := HXS.out.cell 4
              have x5 := HXS.out.cell 5
              have x6 := HXS.out.cell 6
              have x7 := HXS.out.cell 7
              have x8 := HXS.out.cell 8
              have x9 := HXS.out.cell 9
              simp only [List.getElem?_toArray, List.getElem?_cons_zero, List.getElem?_cons_succ] at x0 x1 x2 x3 x4 x5 x6 x7 x8 x9
              have hx := HXS.out
              generalize hRO : rightO ⟨cl, sq, kd, acct, peer, sum, M, per, hold, note⟩ = R at *
              go_wp2_with fail
              refine HRS.out.mono ?_
              rintro e w9 ⟨rfl, hf9⟩
              have y1 := (hx.fr hf9 (fun h => h)).cell 1
              simp only [List.getElem?_toArray, List.getElem?_cons_zero, List.getElem?_cons_succ] at y1
              have y2 := (hx.fr hf9 (fun h => h)).cell 2
              simp only [List.getElem?_toArray, List.getElem?_cons_zero, List.getElem?_cons_succ] at y2
              have HF9 := Lib.hid (below_fr_no HBS.out hf9 HBS.out.size)
              have HRO := Lib.hid hRO
              clear x0 x1 x2 x3 x4 x5 x6 x7 x8 x9 hx hf9 hRO
              cases R with
              | false =>
                go_wp2
                go_ret
                exact ⟨rfl, HF9.out⟩
              | true =>
                have htn : T.length = 0 ↔ kd = 6 := HTN.out rfl
                by_cases hk6 : kd = 6
                · have ht0 : T.length = 0 := htn.2 hk6
                  subst hk6
                  have ht1 : ((T.length : Int) == 0) = true := by rw [ht0]; rfl
                  have HT0 := Lib.hid ht0
                  clear ht0 htn
                  go_wp2
                  go_ret
                  exact ⟨rfl, HF9.out⟩
                · have ht0 : ¬ T.length = 0 := fun h => hk6 (htn.1 h)
                  have ht1 : ((T.length : Int) == 0) = false := by rw [beq_eq_false_iff_ne]; omega
                  have ht2 : (kd == 6) = false := beq_eq_false_iff_ne.2 hk6
                  have HT0 := Lib.hid ht0
                  clear ht0 htn hk6
                  go_wp2
                  go_ret
                  exact ⟨rfl, HF9.out⟩
theorem orderTouches_w (v : Value) (x : Od × Value) (w : World) (hv : v = x.1.val x.2 ∧ OdI w x.1 x.2) :
    Calls Try.prog 8 #[v] w (RetTrue w) := orderTouches_walk v x.1 x.2 w hv
end Go.Proofs.Ytlcbbkookjmnkaa
