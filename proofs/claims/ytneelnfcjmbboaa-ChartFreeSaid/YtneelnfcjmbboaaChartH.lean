/- ChartFree's walk. -/
import Derived.Test.YtneelnfcjmbboaaChartD
import Derived.Test.YtneelnfcjmbboaaChartG
import Derived.Test.YtneelnfcjmbboaaChartB
import Derived.Test.YtneelnfcjmbboaaChartH0
import Derived.Sort.Walk0
namespace Go.Proofs.Ytneelnfcjmbboaa
open Go.RowKit Go.My Go.Maps Go.BigFrame
set_option linter.unusedSimpArgs false
set_option linter.unusedVariables false
attribute [local go_sem ↓] Go.wp_at_zero Go.wp_at_succ

/-- between the steps -/
def FreRel (w2 : World) (p m : Nat) (n : Nat) (iv : Value) (wr : World) : Prop :=
  ∃ (i : Nat) (S : List Ac), i ≤ n ∧ iv = .int .i64 i ∧ ChS wr p m S ∧ Inv S ∧ LowS i S ∧ Fr (At1 m) w2 wr
/-- a loop that makes memory at most -/
def FkRel (w7 : World) (n : Nat) (kv : Value) (ws : World) : Prop := ∃ k : Nat, k ≤ n ∧ kv = .int .i64 k ∧ Fr No w7 ws

/-- what the loop over the accounts reads -/
structure FreSt (w7 : World) (b : Nat) (o : OpC) (S S' : List Ac) (Aw : Option Addr) (cw : Nat) (An : Option Addr) (cn : Nat) : Prop where
  op : Blk w7 b 34 #[.int .i64 o.kind, .string o.name, .int .i64 o.x]
  was : Rd w7 (fun k => (Value.slice Aw S.length cw).ownBlock = some k) 4 Aw S.length (acs S)
  now : Rd w7 (fun k => (Value.slice An S'.length cn).ownBlock = some k) 4 An S'.length (acs S')

theorem rd_no {a b : World} {F : Nat → Prop} {size n : Nat} {A : Option Addr} {xs : List Value} (h : Rd a F size A n xs) (hs : 0 < size) (hf : Fr No a b) : Rd b F size A n xs := h.fr hs hf fun _ _ _ h => h
/-- an account, and the step, in memory -/
theorem fre_at {w7 : World} {b : Nat} {o : OpC} {S S' : List Ac} {Aw An : Option Addr} {cw cn : Nat} (h : FreSt w7 b o S S' Aw cw An cn) (k : Nat) (hk : k < S'.length) :
    ∃ dd, An = some dd ∧ ∀ W, Fr No w7 W → (Fr No w7 W ∧ W.cell? (dd.add (k * 4)) = some (.string ⟨S'[k].name.toArray⟩) ∧ W.cell? ⟨(dd.add (k * 4)).block, (dd.add (k * 4)).off + 1, none⟩ = some (.int .i64 S'[k].hv) ∧
      W.cell? ⟨(dd.add (k * 4)).block, (dd.add (k * 4)).off + 2, none⟩ = some (.int .i64 S'[k].st) ∧ W.cell? ⟨(dd.add (k * 4)).block, (dd.add (k * 4)).off + 3, none⟩ = some (.int .i64 S'[k].lim) ∧
      W.cell? ⟨b, 0, none⟩ = some (.int .i64 o.kind) ∧ W.cell? ⟨b, 1, none⟩ = some (.string o.name) ∧ W.cell? ⟨b, 2, none⟩ = some (.int .i64 o.x)) := by
  obtain ⟨dd, rfl, _, r0, r1, r2, r3⟩ := acs_at h.now k hk
  have c0 := h.op.cell 0
  have c1 := h.op.cell 1
  have c2 := h.op.cell 2
  simp only [List.getElem?_toArray, List.getElem?_cons_zero, List.getElem?_cons_succ] at c0 c1 c2
  exact ⟨dd, rfl, fun W hW => ⟨hW, hW.cell_some r0 (fun h => h), hW.cell_some r1 (fun h => h), hW.cell_some r2 (fun h => h), hW.cell_some r3 (fun h => h), hW.cell_some c0 (fun h => h), hW.cell_some c1 (fun h => h), hW.cell_some c2 (fun h => h)⟩⟩
theorem fre_same {w7 : World} {b : Nat} {o : OpC} {S S' : List Ac} {Aw An : Option Addr} {cw cn : Nat} (h : FreSt w7 b o S S' Aw cw An cn) (hl : S'.length ≤ 12) (W : World) (hW : Fr No w7 W) :
    Calls Try.prog 15 #[.slice An S'.length cn, .slice Aw S.length cw] W fun e w' => e = .returned (.bool (decide (S' = S))) ∧ Fr No W w' :=
  (sameA_any _ _ _ _ cn cw S' S W (rd_no h.now (by omega) hW) (rd_no h.was (by omega) hW) (by omega)).mono fun e w' ⟨h1, n, h2⟩ => ⟨h1, by rw [h2]; exact (Fr.refl _ _).drewN n⟩

theorem low_mod (x : Int) (h : In64 x) : ∃ y, x.tmod 1099511627776 = y ∧ Low y ∧ In64 y := by
  have h1 : -1099511627776 < x.tmod 1099511627776 ∧ x.tmod 1099511627776 < 1099511627776 := by
    rcases Int.le_total 0 x with h | h
    · rw [Int.tmod_eq_emod_of_nonneg h]; omega
    · have h2 : x.tmod 1099511627776 = -((-x).tmod 1099511627776) := by rw [Int.neg_tmod, Int.neg_neg]
      rw [h2, Int.tmod_eq_emod_of_nonneg (by omega)]
      omega
  refine ⟨_, rfl, h1, ?_⟩
  unfold In64
  omega

set_option maxRecDepth 100000 in
set_option maxHeartbeats 4000000 in
theorem chartFree_walk (A : Option Addr) (c : Nat) (cells : List Value) (l : List OpC) (w : World) (hr : Rd w (Lt w.heap.size) 3 A l.length cells) (hlc : l.length ≤ c) (hcm : c ≤ maxLen) (hE : Each RdC 3 cells l) :
    Calls Try.prog 4 #[.slice A l.length c] w (RetTrue w) := by
  have HR := Lib.hid hr
  have HEA := Lib.hid hE
  have HCM := Lib.hid hcm
  have HLC := Lib.hid hlc
  clear hr hE hcm hlc
  go_enter Try.func4, Try.ntmps4
  go_wp2_with fail
  refine (livesH _).mono ?_
  rintro e w1 ⟨rfl, hb1⟩
  go_wp2_with fail
  refine (new_any w1).mono ?_
  rintro e w2 ⟨p, m, rfl, hc1, hf1, hp1, hm1⟩
  have hs1 := hb1.size
  have hB2 : Below w.heap.size w w2 := below_fr_no hb1 hf1 hb1.size
  have hm1' : w.heap.size ≤ m := by omega
  have HRD := Lib.hid (HR.out.below hB2 fun _ h => h)
  have HB2 := Lib.hid hB2
  have HC1 := Lib.hid hc1
  clear hc1 hf1 hp1 hm1 hb1 hs1 hB2 HR
  obtain ⟨n, hn, hn2, hEA⟩ : ∃ n, n ≤ l.length ∧ n ≤ 150 ∧ ∀ W, Calls Try.prog 10 #[.slice A l.length c] W fun e w' => e = .returned (.slice A n c) ∧ W = w' := ⟨min l.length 150, by omega, by omega, fun W => early5_any _ _ _ _ HLC.out HCM.out⟩
  have HEY := Lib.hid hEA
  clear hEA
  go_wp2_with (go_at_call 10; refine (HEY.out _).mono ?_; rintro e w4 ⟨rfl, rfl⟩)
  go_loopw [4] (fun iv wr => FreRel w2 p m n iv wr) (fun iv _ => n - (intOf iv).toNat)
  case atStart => exact ⟨0, [], Nat.zero_le _, rfl, HC1.out, Inv.nil, LowS.nil 0, Fr.refl _ _⟩
  case round =>
    obtain ⟨i, S, hi, rfl, hcS, hIS, hLS, hfr⟩ := hrel
    by_cases hlt : i < n
    · have hil : i < l.length := by omega
      have hRw : Rd wr (Lt w.heap.size) 3 A l.length cells := HRD.out.fr (by omega) hfr fun k hk _ hs => by
        have hk' : k < w.heap.size := hk
        have : k = m := hs
        omega
      obtain ⟨ad, rfl, had, hok, q0, q1, q2⟩ := scr_at hRw HEA.out i hil hil
      obtain ⟨y, hy, hly, hiy⟩ := low_mod l[i].x hok.2.1
      obtain ⟨o, eo1, eo2, eo3, hlo, hoo⟩ : ∃ o : OpC, l[i].kind = o.kind ∧ l[i].name = o.name ∧ l[i].x.tmod 1099511627776 = o.x ∧ Low o.x ∧ o.ok := ⟨⟨l[i].kind, l[i].name, y⟩, rfl, rfl, hy, hly, hok.1, hiy, hok.2.2⟩
      rw [eo1] at q0
      rw [eo2] at q1
      have HCS := Lib.hid hcS
      have HIS := Lib.hid hIS
      have HLS := Lib.hid hLS
      have HFR := Lib.hid hfr
      have HOK := Lib.hid hoo
      have HLO := Lib.hid hlo
      generalize l[i].x = x0 at *
      clear hcS hIS hLS hfr hRw had hok hy hly hiy eo1 eo2 hlo hoo
      have hbx := Blk.new wr 34 #[.int .i64 o.kind, .string o.name, .int .i64 o.x]
      have hfx : Fr No wr (wr.alloc (.cells #[.int .i64 o.kind, .string o.name, .int .i64 o.x] 34)) := (Fr.refl No wr).alloc _
      have HBX := Lib.hid hbx
      have HFX := Lib.hid hfx
      clear hbx hfx
      go_upto_region 11 with (go_at_call 16; (with_reducible refine (all_any p m S _ (HCS.out.no ((Fr.refl _ _).alloc _)) HIS.out.nm HIS.out.len).mono ?_); rintro e w5 ⟨vw, rfl, how, hf5', hn5⟩)
      obtain ⟨Aw, cw, rfl, hlw, hcw⟩ := how.form
      have hf5 := fr_at_none hf5'
      have hfx5 := HFX.out.trans hf5
      have hbx5 := HBX.out.fr hf5 (fun h => h)
      have x0' := hbx5.cell 0
      have x1 := hbx5.cell 1
      have x2 := hbx5.cell 2
      simp only [List.getElem?_toArray, List.getElem?_cons_zero, List.getElem?_cons_succ] at x0' x1 x2
      have hsz5 : wr.heap.size < w5.heap.size := hbx5.lt
      have HOW := Lib.hid how
      have HBX5 := Lib.hid hbx5
      have HFX5 := Lib.hid hfx5
      have HN5 : Hid (∀ k, (Value.slice Aw S.length cw).ownBlock = some k → wr.heap.size ≤ k) := fun k hk => by
        have := newer_none hn5 k hk
        have h2 := HFX.out.size
        omega
      have HDO := Lib.hid (does_any p m S o w5 (HCS.out.no hfx5) HIS.out HOK.out)
      have HERR : Hid (doesE S o ≠ 0 → doesS S o = S) := does_err
      have HI6 : Hid (Inv (doesS S o)) := inv_does HIS.out o HOK.out
      have HL6 : Hid (LowS (i + 1) (doesS S o)) := HLS.out.does o HLO.out
      have HFA : Hid (∀ b ∈ doesS S o, b.name = o.name.data.toList → (kindC o.kind = 1 ∧ 0 ≤ o.x ∨ kindC o.kind = 2 ∧ 0 < o.x) → doesS S o ≠ S → -b.lim ≤ b.hv - b.st) := fun b hb h1 h2 h3 => free_at HIS.out.rise hb h1 h2 h3
      clear how hf5' hn5 hf5 hfx5 hbx5 q0 q1 q2 eo3
      generalize doesE S o = ev at *
      generalize doesS S o = S' at *
      go_wp2_with fail
      refine HDO.out.mono ?_
      rintro e w6 ⟨rfl, hc6, hf6⟩
      have HL1 := HIS.out.len
      have HL2 := HI6.out.len
      have hmw : m < wr.heap.size := HCS.out.2.lt
      have HC6 := Lib.hid hc6
      have HF6 := Lib.hid hf6
      clear hc6 hf6 HDO
      have HEND : Hid (∀ W, Fr No w6 W → ∀ w7 An cn, Own w7 43 4 (.slice An S'.length cn) S'.length (acs S') → Fr No W w7 → FreSt w7 wr.heap.size o S S' Aw cw An cn ∧ Fr No w6 w7) := fun W hW w7 An cn hO hW7 => by
        have h1 := hW.trans hW7
        have h2 : Fr (At1 m) w5 w7 := HF6.out.trans (h1.mono fun _ _ h => False.elim h)
        refine ⟨⟨HBX5.out.fr h2 (fun h => by have : wr.heap.size = m := h; omega), (HOW.out.fr h2 (fun k hk h => by
          have h3 := HN5.out k hk
          have : k = m := h
          omega)).rd, hO.rd⟩, h1⟩
      generalize wr.heap.size = bo at *
      have hem : ev = 0 ∨ ev ≠ 0 := Decidable.em _
      rcases hem with h0 | h0
      focus
        subst h0
        go_upto_region 14 with (go_at_call 16; (with_reducible refine (all_any p m S' _ HC6.out HI6.out.nm HI6.out.len).mono ?_); rintro e w7 ⟨vn, rfl, hon, hf7', hn7⟩)
        obtain ⟨An, cn, rfl, hln, hcn⟩ := hon.form
        obtain ⟨hst, hf67⟩ := HEND.out _ (Fr.refl _ _) _ _ _ hon (fr_at_none hf7')
      rotate_left
      focus
        have HSS : Hid (S' = S) := HERR.out h0
        have hz : (ev == 0) = false := beq_eq_false_iff_ne.2 h0
        have hz2 : (ev != 0) = true := by rw [bne_iff_ne]; exact h0
        clear h0
        go_wp2_with fail
        (with_reducible refine (all_any p m S' _ HC6.out HI6.out.nm HI6.out.len).mono ?_)
        rintro e w8 ⟨v8, rfl, ho8, hf8', hn8⟩
        obtain ⟨A8, c8, rfl, hl8, hc8⟩ := ho8.form
        obtain ⟨hst8, hf68⟩ := HEND.out _ (Fr.refl _ _) _ _ _ ho8 (fr_at_none hf8')
        have hsm := fre_same hst8 HI6.out.len w8 (Fr.refl _ _)
        rw [decide_eq_true HSS.out] at hsm
        have HSM := Lib.hid hsm
        have HF8 := Lib.hid hf68
        clear hsm hst8 ho8 hf8' hn8 hf68
        go_wp2_with fail
        (with_reducible refine HSM.out.mono ?_)
        rintro e w9 ⟨rfl, hf9⟩
        have HF9 := Lib.hid (HF8.out.trans hf9)
        clear hf9
        go_upto_region 14 with (go_at_call 16; (with_reducible refine (all_any p m S' _ (HC6.out.no HF9.out) HI6.out.nm HI6.out.len).mono ?_); rintro e w7 ⟨vn, rfl, hon, hf7', hn7⟩)
        obtain ⟨An, cn, rfl, hln, hcn⟩ := hon.form
        obtain ⟨hst, hf67⟩ := HEND.out _ HF9.out _ _ _ hon (fr_at_none hf7')
      all_goals
        have HST := Lib.hid hst
        have HF67 := Lib.hid hf67
        clear hst hf67 hon hf7' hn7 x0' x1 x2
        go_wp2
        go_loopw [8] (fun kv ws => FkRel w7 S'.length kv ws) (fun kv _ => S'.length - (intOf kv).toNat)
        case atStart => exact ⟨0, Nat.zero_le _, rfl, Fr.refl _ _⟩
        case round =>
          obtain ⟨k, hk, rfl, hfk⟩ := hrel
          by_cases hkl : k < S'.length
          · obtain ⟨dd, hdd, hat⟩ := fre_at HST.out k hkl
            subst hdd
            have HAT := Lib.hid hat
            have hok := HI6.out.ok _ (List.getElem_mem hkl)
            have hlow := HL6.out _ (List.getElem_mem hkl)
            have HFK := Lib.hid (HFA.out _ (List.getElem_mem hkl))
            have hord : ∀ q, k = q + 1 → ∃ nq : List UInt8, (∀ W, Fr No w7 W → W.cell? (dd.add (q * 4)) = some (.string ⟨nq.toArray⟩)) ∧ nq < S'[k].name := fun q hq => by
              subst hq
              obtain ⟨d2, hd2, hat2⟩ := fre_at HST.out q (by omega)
              injection hd2 with hd2
              subst hd2
              exact ⟨_, fun W hW => (hat2 W hW).2.1, rise_at HI6.out.rise q hkl⟩
            have HORD := Lib.hid hord
            obtain ⟨lo, hlo⟩ : ∃ lo : List UInt8, o.name.data.toList = lo := ⟨_, rfl⟩
            have hlo2 : o.name = ⟨lo.toArray⟩ := by rw [← hlo]
            rw [hlo] at HFK
            rw [hlo2] at HAT
            generalize S'[k] = b at *
            obtain ⟨nb, vb, sb, lb⟩ := b
            unfold OkA In64 at hok
            simp only at hok hlow HFK HAT HORD
            obtain ⟨hok1, hok2, hok3⟩ := hok
            obtain ⟨hlo1, hlo3, hlo4⟩ := hlow
            have hz1 : decide (sb < 0) = false := decide_eq_false (by omega)
            have hz2 : decide (lb < 0) = false := decide_eq_false (by omega)
            have hk13 : (k : Int) < 13 := by omega
            have hb1 : -9223372036854775808 ≤ vb - sb ∧ vb - sb ≤ 9223372036854775807 := by omega
            have hb2 : -9223372036854775808 ≤ -lb ∧ -lb ≤ 9223372036854775807 := by omega
            have HW1 : Hid (IntKind.i64.wrap (vb - sb) = vb - sb) := IntWalk.i64_in _ hb1
            have HW2 : Hid (IntKind.i64.wrap (-lb) = -lb) := IntWalk.i64_in _ hb2
            clear hat hord hlo hlo2 hok1 hok2 hok3 hlo1 hlo3 hlo4 hb1 hb2
            obtain ⟨_, r0, r1, r2, r3, u0, u1, u2⟩ := HAT.out _ hfk
            go_upto_region 17 with (fail)
            go_cut [3, 4, 5, 6, 7, 8, 80] (fun a3 a4 a5 a6 a7 a8 a80 wx => (a3 = .pointer (some ⟨p, 0, none⟩) ∧ a4 = .int .i64 i ∧ a5 = .pointer (some ⟨bo, 0, none⟩) ∧ a6 = .slice Aw S.length cw ∧ a7 = .slice (some dd) S'.length cn ∧ a8 = .int .i64 k ∧ a80 = .bool false) ∧ Fr No w7 wx)
            case first =>
              by_cases hk0 : 0 < k
              · obtain ⟨q, hq⟩ : ∃ q, k = q + 1 := ⟨k - 1, by omega⟩
                obtain ⟨nq, hcq, hlq⟩ := HORD.out q hq
                have g0 := hcq _ hfk
                have hg1 : decide (0 < (k : Int)) = true := decide_eq_true (by omega)
                have hg2 : decide (0 < k) = true := decide_eq_true (by omega)
                have hql : q < S'.length := by omega
                have hw : IntKind.i64.wrap ((k : Int) - 1) = (q : Int) := by
                  rw [show (k : Int) - 1 = (q : Int) by omega]
                  exact IntWalk.i64_in _ ⟨by omega, by omega⟩
                have hbl : Op.bytesLess nq nb = true := by rw [bytesLess_eq]; exact decide_eq_true hlq
                have hbl2 : Op.bytesLess (⟨nq.toArray⟩ : ByteArray).toList (⟨nb.toArray⟩ : ByteArray).toList = true := by rw [ByteArray.toList_eq, ByteArray.toList_eq]; exact hbl
                clear hq hcq hlq
                go_quiet (fail)
                go_wp2
                go_meet
                exact ⟨⟨rfl, rfl, rfl, rfl, rfl, rfl, rfl⟩, hfk.drewN _⟩
              · have hg1 : decide (0 < (k : Int)) = false := decide_eq_false (by omega)
                have hg2 : decide (0 < k) = false := decide_eq_false (by omega)
                clear hk0
                go_quiet (fail)
                go_wp2
                go_meet
                exact ⟨⟨rfl, rfl, rfl, rfl, rfl, rfl, rfl⟩, hfk.drewN _⟩
            case rest =>
              obtain ⟨⟨rfl, rfl, rfl, rfl, rfl, rfl, rfl⟩, hfx⟩ := hcut
              obtain ⟨_, v0, v1, v2, v3, y0, y1, y2⟩ := HAT.out _ hfx
              have hw1 := HW1.out
              have hw2 := HW2.out
              go_wp2
              refine fre19_any w7 _ dd k cn cw bo Aw S S' o lo nb vb sb lb hkl HL2 hw1 hw2 HAT hfx HOK.out.1 ?_ ?_ ?_
              · intro h W hW
                have h1 := fre_same HST.out HL2 W hW
                rw [decide_eq_true h] at h1
                exact h1
              · intro hfree h1 h2
                rcases Decidable.em (S' = S) with h | h
                · exact h
                · have := HFK.out h1 h2 h
                  omega
              · intros
                rename_i wq hq
                go_wp2
                go_roundw
                case rel => exact ⟨k + 1, by omega, by go_num, hq⟩
                case measure => simp [intOf]; omega
          · have : k = S'.length := by omega
            subst this
            have HFE : Hid (Fr (At1 m) w2 wr) := ((HFR.out.trans (HFX5.out.mono fun _ _ h => False.elim h)).trans HF6.out).trans ((HF67.out.trans hfk).mono fun _ _ h => False.elim h)
            have HCE := Lib.hid ((HC6.out.no HF67.out).no hfk)
            clear hfk
            go_wp2
            go_roundw
            case rel => exact ⟨i + 1, S', by omega, by go_num, HCE.out, HI6.out, HL6.out, HFE.out⟩
            case measure => simp [intOf]; omega
    · obtain rfl : i = n := by omega
      have hBw : Below w.heap.size w wr := below_fr HB2.out hfr HB2.out.size (fun k hk => by have : k = m := hk; omega)
      have HAL := Lib.hid (all_any p m S wr hcS hIS.nm hIS.len)
      have HBW := Lib.hid hBw
      have hL := hIS.len
      have hle : decide ((S.length : Int) ≤ 12) = true := decide_eq_true (by omega)
      clear hBw hcS hIS hLS hfr
      go_wp2_with fail
      refine HAL.out.mono ?_
      rintro e w9 ⟨v9, rfl, ho9, hf9, hn9⟩
      obtain ⟨A9, c9, rfl, hl9, hc9⟩ := ho9.form
      have HB9 := Lib.hid (below_fr_no HBW.out (fr_at_none hf9) HBW.out.size)
      clear ho9 hf9 hn9
      go_wp2
      go_ret
      exact ⟨rfl, HB9.out⟩
end Go.Proofs.Ytneelnfcjmbboaa
