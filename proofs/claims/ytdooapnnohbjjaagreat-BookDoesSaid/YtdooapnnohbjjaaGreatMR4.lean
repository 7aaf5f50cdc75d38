/- The document's book: an order, whatever it is; a new one. The document's book: a new one; replies that are the same. The law's own check: the program's book and the document's have the same. The document's book: orders, one behind the other. BookDoes' walk. -/
import Derived.Test.YtdooapnnohbjjaaGreatMR2
import Derived.Test.YtdooapnnohbjjaaGreatMR3
import Derived.Test.YtdooapnnohbjjaaGreatMB
import Derived.Test.YtdooapnnohbjjaaGreatMR1
namespace Go.Proofs.YtdooapnnohbjjaaGreat
open Go.RowKit Go.My Go.Maps
set_option linter.unusedSimpArgs false
set_option linter.unusedVariables false
attribute [local go_sem ↓] Go.wp_at_zero Go.wp_at_succ

theorem rdo_any (F : Nat → Prop) (r : Rl) (b : Bk) (o : Od) (v : Value) (w : World) (h : RbS w r b) (ho : o.ok) (hv : LgS w F v o.legs) (h100 : o.legs.length ≤ 100) (hF : ∀ k, F k → k < w.heap.size ∧ k ≠ r.c) :
    Calls Tryz.prog 9 #[.pointer (some ⟨r.p, 0, none⟩), o.val v] w (DidR r (doR b o) (doB b o) w) := by
  cases hr : rightO o with
  | false => exact rdo_wrong F r b o v w h ho hv h100 hF hr
  | true =>
    obtain ⟨e1, e2⟩ := doR_eff b o hr
    rw [e1, e2]
    obtain ⟨⟨k1, k2⟩, -⟩ := right_kd hr
    have hk : o.kd = 1 ∨ o.kd = 2 ∨ o.kd = 3 ∨ o.kd = 4 ∨ o.kd = 5 ∨ o.kd = 6 ∨ o.kd = 7 := by omega
    by_cases hc : o.per ≤ b.cl
    · rcases hk with hk | hk | hk | hk | hk | hk | hk
      · exact rdo_open F r b o v w h ho hv h100 hF hr hk
      · exact rdo_post_closed F r b o v w h ho hv h100 hF hr hk hc
      · exact rdo_hold F r b o v w h ho hv h100 hF hr hk
      · exact rdo_capture_closed F r b o v w h ho hv h100 hF hr hk hc
      · exact rdo_release F r b o v w h ho hv h100 hF hr hk
      · exact rdo_close_closed F r b o v w h ho hv h100 hF hr hk hc
      · exact rdo_ask F r b o v w h ho hv h100 hF hr hk
    · rcases hk with hk | hk | hk | hk | hk | hk | hk
      · exact rdo_open F r b o v w h ho hv h100 hF hr hk
      · exact rdo_post F r b o v w h ho hv h100 hF hr hk hc
      · exact rdo_hold F r b o v w h ho hv h100 hF hr hk
      · exact rdo_capture F r b o v w h ho hv h100 hF hr hk hc
      · exact rdo_release F r b o v w h ho hv h100 hF hr hk
      · exact rdo_close F r b o v w h ho hv h100 hF hr hk hc
      · exact rdo_ask F r b o v w h ho hv h100 hF hr hk
end Go.Proofs.YtdooapnnohbjjaaGreat

namespace Go.Proofs.YtdooapnnohbjjaaGreat
open Go.RowKit Go.My Go.Maps
set_option linter.unusedSimpArgs false
set_option linter.unusedVariables false
attribute [local go_sem ↓] Go.wp_at_zero Go.wp_at_succ

set_option maxRecDepth 100000 in
set_option maxHeartbeats 1000000 in
theorem newr_any (w : World) : Calls Tryz.prog 6 #[] w fun e w' => ∃ r : Rl, e = .returned (.pointer (some ⟨r.p, 0, none⟩)) ∧ RbS w' r bk0 ∧ Fr No w w' ∧ ∀ i, r.wr i → w.heap.size ≤ i := by
  go_enter Tryz.func6, Tryz.ntmps6
  go_wp2
  have hc := Blk.new w 60 #[.slice none 0 0]
  have hh := Blk.new (w.alloc (.cells #[.slice none 0 0] 60)) 64 #[.slice none 0 0]
  have hb := Blk.new ((w.alloc (.cells #[.slice none 0 0] 60)).alloc (.cells #[.slice none 0 0] 64)) 66 #[.pointer (some ⟨w.heap.size, 0, none⟩), .pointer (some ⟨w.heap.size + 1, 0, none⟩), .int .i64 0]
  have hc2 := (hc.alloc (.cells #[.slice none 0 0] 64)).alloc (.cells #[.pointer (some ⟨w.heap.size, 0, none⟩), .pointer (some ⟨w.heap.size + 1, 0, none⟩), .int .i64 0] 66)
  have hh2 := hh.alloc (.cells #[.pointer (some ⟨w.heap.size, 0, none⟩), .pointer (some ⟨w.heap.size + 1, 0, none⟩), .int .i64 0] 66)
  simp only [World.size_alloc] at hc2 hh2 hb
  go_ret
  refine ⟨⟨w.heap.size + 2, w.heap.size, w.heap.size + 1⟩, rfl, ⟨hb, ⟨none, 0, hc2, Nat.le_refl _, Nat.zero_le _, Own.nil _ _ _⟩, ⟨none, 0, hh2, Nat.le_refl _, Nat.zero_le _, Own.nil _ _ _⟩, bki0⟩, (((Fr.refl _ _).alloc _).alloc _).alloc _, fun i hi => ?_⟩
  rcases hi with e | e | e <;> simp only at e <;> omega
theorem rp_eq (n : Nat) (cs : Int → Value) : True := True.intro
set_option maxRecDepth 100000 in
set_option maxHeartbeats 2000000 in
theorem samereps_any (F G : Nat → Prop) (A B : Option Addr) (c d : Nat) (l : List Rp) (n : Nat) (w : World) (hn : n = l.length) (hl : Rd w F 4 A n (rps l)) (hr : Rd w G 4 B n (rps l)) (hsz : n ≤ 1000000) :
    Calls Tryz.prog 13 #[.slice A n c, .slice B n d] w fun e w' => e = .returned (.bool true) ∧ Fr No w w' := by
  subst hn
  have HA := Lib.hid hl
  have HB := Lib.hid hr
  clear hl hr
  go_enter Tryz.func13, Tryz.ntmps13
  go_wp2
  go_loopw [5] (fun iv wr => ∃ k : Nat, k ≤ l.length ∧ iv = .int .i64 k ∧ ∃ n, wr = w.drewN n) (fun iv _ => l.length - (intOf iv).toNat)
  case atStart => exact ⟨0, Nat.zero_le _, rfl, 0, rfl⟩
  case round =>
    obtain ⟨k, hk, rfl, j, rfl⟩ := hrel
    have hk62 : (k : Int) ≤ 9223372036854775807 := by omega
    by_cases hlt : k < l.length
    · obtain ⟨ad, rfl, p0, p1, p2, p3⟩ := rp_at HA.out k hlt
      obtain ⟨bd, rfl, q0, q1, q2, q3⟩ := rp_at HB.out k hlt
      generalize l[k].err = e0 at *
      generalize l[k].hv = e1 at *
      generalize l[k].st = e2 at *
      generalize l[k].num = e3 at *
      go_wp2
      go_quiet (fail)
      go_wp2
      go_roundw
      case rel => exact ⟨k + 1, by omega, by go_num, _, rfl⟩
      case measure => simp [intOf]; omega
    · have : k = l.length := by omega
      subst this
      go_wp2
      go_ret
      exact ⟨rfl, (Fr.refl _ _).drewN _⟩
end Go.Proofs.YtdooapnnohbjjaaGreat

namespace Go.Proofs.YtdooapnnohbjjaaGreat
open Go.RowKit Go.My Go.Maps
set_option linter.unusedSimpArgs false
set_option linter.unusedVariables false
attribute [local go_sem ↓] Go.wp_at_zero Go.wp_at_succ

set_option maxRecDepth 100000 in
set_option maxHeartbeats 4000000 in
theorem like_any (q : Pl) (r : Rl) (b : Bk) (w : World) (hq : BkS w q b) (hr : RbS w r b) :
    Calls Tryz.prog 10 #[.pointer (some ⟨q.p, 0, none⟩), .pointer (some ⟨r.p, 0, none⟩)] w fun e w' => e = .returned (.bool true) ∧ Fr No w w' := by
  have HQ := Lib.hid hq
  have HLH : Hid (b.H.length ≤ 96) := hq.inv.st.len
  have HLS : Hid (b.S.length ≤ 1000000000) := by have := hq.inv.st.kp.inv.len; show _ ≤ _; omega
  obtain ⟨AS, cS, hbS, s1, s2, hoS⟩ := hr.ch
  obtain ⟨AH, cH, hbH, t1, t2, hoH⟩ := hr.hd
  have HBK := Lib.hid hr.blk
  have HBS := Lib.hid hbS
  have HBH := Lib.hid hbH
  have HOS := Lib.hid hoS.rd
  have HOH := Lib.hid hoH.rd
  clear hq hr hbS hoS hbH hoH s1 s2 t1 t2
  go_enter Tryz.func10, Tryz.ntmps10
  go_wp2_with fail
  (with_reducible refine (bholds_any q b _ HQ.out).mono ?_)
  rintro e w1 ⟨v1, rfl, ho1, hg1, -⟩
  obtain ⟨A1, c1, rfl, hl1, hm1⟩ := ho1.form
  have hf1 := fr_at_none hg1
  have HF1 := Lib.hid hf1
  have HO1 := Lib.hid ho1.rd
  have HX : Hid (∀ W, Fr No w1 W → Fr No w1 W ∧ W.cell? ⟨r.p, 0, none⟩ = some (.pointer (some ⟨r.c, 0, none⟩)) ∧ W.cell? ⟨r.p, 1, none⟩ = some (.pointer (some ⟨r.h, 0, none⟩)) ∧ W.cell? ⟨r.p, 2, none⟩ = some (.int .i64 b.cl) ∧ W.cell? ⟨r.c, 0, none⟩ = some (.slice AS b.S.length cS) ∧ W.cell? ⟨r.h, 0, none⟩ = some (.slice AH b.H.length cH)) := fun W hW => by
    have h0 := HF1.out.trans hW
    have h1 := HBK.out.fr h0 (fun h => h)
    have h2 := HBS.out.fr h0 (fun h => h)
    have h3 := HBH.out.fr h0 (fun h => h)
    exact ⟨hW, h1.cell 0, h1.cell 1, h1.cell 2, h2.cell 0, h3.cell 0⟩
  have hk0 : Fr No w1 w1.drew := (Fr.refl No w1).drew
  clear hg1 ho1 hf1
  go_upto_region 2 with (fail)
  go_region_held3 (fun W => Fr No w1 W ∧ W.cell? ⟨r.p, 0, none⟩ = some (.pointer (some ⟨r.c, 0, none⟩)) ∧ W.cell? ⟨r.p, 1, none⟩ = some (.pointer (some ⟨r.h, 0, none⟩)) ∧ W.cell? ⟨r.p, 2, none⟩ = some (.int .i64 b.cl) ∧ W.cell? ⟨r.c, 0, none⟩ = some (.slice AS b.S.length cS) ∧ W.cell? ⟨r.h, 0, none⟩ = some (.slice AH b.H.length cH))
    (first
      | (refine HX.out _ ?_; with_reducible assumption)
      | (refine HX.out _ (Fr.drew ?_); with_reducible first | assumption | exact Fr.refl _ w1))
    (first
      | (go_at_call 16; (with_reducible refine (baccts_any q b _ (HQ.out.no (HF1.out.drew))).mono ?_); rintro e u1 ⟨v2, rfl, ho2, hg2, -⟩; obtain ⟨A2, c2, rfl, hl2, hm2⟩ := ho2.form; have ka1 : Fr No w1 u1 := Fr.trans (Fr.refl _ w1).drew (fr_at_none hg2); have HO2 := Lib.hid ho2.rd; clear hg2 ho2)
      | (go_at_call 30; have hsa := sameA_any _ _ A2 AS c2 cS b.S b.S u1 HO2.out (HOS.out.fr (by omega) (HF1.out.trans ka1) (fun _ _ _ h => h)) HLS.out; rw [decide_eq_true (rfl : b.S = b.S)] at hsa; (with_reducible refine hsa.mono ?_); rintro e u2 ⟨rfl, j, rfl⟩; have ka2 : Fr No w1 (u1.drewN j) := Fr.drewN ka1 j; clear hsa)
      | (go_at_call 31; (with_reducible refine (bclosed_any q b _ (HQ.out.no (HF1.out.trans ka2))).mono ?_); rintro e u3 ⟨rfl, rfl⟩))
  have HF4 := Lib.hid (HF1.out.trans ka2)
  have HP1 := Lib.hid (HO1.out.fr (by omega) ka2 (fun _ _ _ h => h))
  have HP2 := Lib.hid (HOH.out.fr (by omega) HF4.out (fun _ _ _ h => h))
  obtain ⟨-, -, e1, -, -, e5⟩ := HX.out _ ka2
  clear HX hk0 ka2 HO2 HQ HBK HBS HBH HOS HOH HO1 ka1
  generalize u1.drewN j = u4 at *
  clear HF1
  go_wp2
  go_loopw [6] (fun iv wr => ∃ k : Nat, k ≤ b.H.length ∧ iv = .int .i64 k ∧ ∃ n, wr = u4.drewN n) (fun iv _ => b.H.length - (intOf iv).toNat)
  case atStart => exact ⟨0, Nat.zero_le _, rfl, 0, rfl⟩
  case round =>
    obtain ⟨k, hk, rfl, j, rfl⟩ := hrel
    have hk62 : (k : Int) ≤ 96 := by have : b.H.length ≤ 96 := HLH.out; omega
    by_cases hlt : k < b.H.length
    · obtain ⟨ad, rfl, _, p0, p1, p2⟩ := hd_at HP1.out k hlt
      obtain ⟨bd, rfl, _, q0, q1, q2⟩ := hd_at HP2.out k hlt
      generalize b.H[k].acct.toArray = n1 at *
      generalize b.H[k].num = v1 at *
      generalize b.H[k].sum = v2 at *
      go_wp2
      go_quiet (fail)
      go_wp2
      go_roundw
      case rel => exact ⟨k + 1, by omega, by go_num, _, rfl⟩
      case measure => simp [intOf]; omega
    · have : k = b.H.length := by omega
      subst this
      go_wp2
      go_ret
      exact ⟨rfl, HF4.out.drewN _⟩
end Go.Proofs.YtdooapnnohbjjaaGreat

namespace Go.Proofs.YtdooapnnohbjjaaGreat
open Go.RowKit Go.My Go.Maps
set_option linter.unusedSimpArgs false
set_option linter.unusedVariables false
attribute [local go_sem ↓] Go.wp_at_zero Go.wp_at_succ

/-- a row of replies is no block of a book -/
theorem own_farR {w : World} {r : Rl} {b : Bk} {v : Value} {n : Nat} {xs : List Value} (ho : Own w 31 4 v n xs) (h : RbS w r b) : ∀ i, r.wr i → v.ownBlock ≠ some i := fun i hi hk => by
  obtain ⟨cur, hc⟩ := ho.blk i hk
  obtain ⟨c1, h1⟩ := h.ch.blk
  obtain ⟨c2, h2⟩ := h.hd.blk
  rcases hi with rfl | rfl | rfl
  · exact Blk.ne_ h.blk hc (by decide) rfl
  · exact Blk.ne_ h1 hc (by decide) rfl
  · exact Blk.ne_ h2 hc (by decide) rfl
/-- what is written is a row of replies -/
theorem RbS.row {w w' : World} {r : Rl} {b : Bk} {v : Value} {n : Nat} {xs : List Value} (h : RbS w r b) (ho : Own w 31 4 v n xs) (hf : Fr (AtO v.ownBlock) w w') : RbS w' r b :=
  h.fr hf (fun i hi e => own_farR ho h i hi e) (fun k hk cur hc => by
    obtain ⟨c1, h1⟩ := ho.blk k hk
    exact Blk.ne_ h1 hc (by decide) rfl) (fun k hk cur hc => by
    obtain ⟨c1, h1⟩ := ho.blk k hk
    exact Blk.ne_ h1 hc (by decide) rfl)
def FrRel (w : World) (r : Rl) (l : List Od) (lv iv : Value) (wr : World) : Prop :=
  ∃ k : Nat, k ≤ l.length ∧ iv = .int .i64 k ∧ Own wr 31 4 lv k (rps (foldR bk0 (l.take k))) ∧ RbS wr r (foldB bk0 (l.take k)) ∧ Fr No w wr ∧ Newer w.heap.size none lv.ownBlock
def FoldRetR (w : World) (l : List Od) (e : Ending) (w' : World) : Prop := ∃ A c r, e = .returned (.tuple #[.slice A l.length c, .pointer (some ⟨r.p, 0, none⟩)]) ∧ Rd w' (fun k => w.heap.size ≤ k) 4 A l.length (rps (foldR bk0 l)) ∧ RbS w' r (foldB bk0 l) ∧ Fr No w w' ∧ (∀ i, Rl.wr r i → w.heap.size ≤ i) ∧ l.length ≤ c ∧ c ≤ maxLen
set_option maxRecDepth 100000 in
set_option maxHeartbeats 4000000 in
theorem rfold_any (w0 w : World) (F : Nat → Prop) (A : Option Addr) (c : Nat) (l : List Od) (hl : OdsS w0 w F A l) (hb0 : Below w0.heap.size w0 w) (hlc : l.length ≤ 1000) (h100 : ∀ o ∈ l, o.legs.length ≤ 100) :
    Calls Tryz.prog 12 #[.slice A l.length c] w (FoldRetR w l) := by
  have HL : Hid (OdsS w0 w (Lt w.heap.size) A l) := by
    obtain ⟨cells, hr, hE⟩ := hl
    exact ⟨cells, rd_lt hr (by omega), hE⟩
  have HB0 := Lib.hid hb0
  have H100 := Lib.hid h100
  have HNEW := Lib.hid (newr_any w)
  have hlm : l.length ≤ 1000 := hlc
  clear hl hb0 hlc h100
  go_enter Tryz.func12, Tryz.ntmps12
  go_wp2_with fail
  (with_reducible refine HNEW.out.mono ?_)
  rintro e w1 ⟨r, rfl, hb1, hf1, hq1⟩
  have HF1 := Lib.hid hf1
  have HQ := Lib.hid hq1
  have HB1 := Lib.hid hb1
  clear hf1 hq1 hb1 HNEW
  go_wp2
  go_loopw [5, 6] (fun lv iv wr => FrRel w r l lv iv wr) (fun _ iv _ => l.length - (intOf iv).toNat)
  case atStart => exact ⟨0, Nat.zero_le _, rfl, Own.nil _ _ _, HB1.out, HF1.out, .inl rfl⟩
  case round =>
    obtain ⟨k, hk, rfl, hown, hbk, hfr, hnew⟩ := hrel
    by_cases hlt : k < l.length
    · obtain ⟨ad, v, rfl, _, hok, hg, hL, q0, q1, q2, q3, q4, q5, q6, q7, q8, q9⟩ := (HL.out.below hfr.belowNo (fun _ h => h)).at_ k hlt
      obtain ⟨B, d, rfl, hd1, hd2⟩ := hL.form
      obtain ⟨E1, E2⟩ := fold_take bk0 l k hlt
      have hlg : l[k].legs.length ≤ 100 := H100.out _ (List.getElem_mem hlt)
      have hW : ∀ W, Fr No wr W → Below w0.heap.size w0 W := fun W h => (HB0.out.trans (hfr.belowNo.mono HB0.out.size)).trans (h.belowNo.mono (by have := hfr.size; have := HB0.out.size; omega))
      have hFF : ∀ W, Fr No wr W → ∀ k, Lt w0.heap.size k → k < W.heap.size ∧ k ≠ r.c := fun W h k hk => by
        have h1 : k < w0.heap.size := hk
        have h2 := (hW W h).size
        have h3 := HQ.out r.c (.inr (.inl rfl))
        have h4 := HB0.out.size
        exact ⟨by omega, by omega⟩
      have HDO : Hid (∀ W, Fr No wr W → Calls Tryz.prog 9 #[.pointer (some ⟨r.p, 0, none⟩), l[k].val (.slice B l[k].legs.length d)] W (DidR r (doR (foldB bk0 (l.take k)) l[k]) (doB (foldB bk0 (l.take k)) l[k]) W)) := fun W h =>
        rdo_any _ r _ l[k] _ W (hbk.no h) hok (hL.below (hW W h)) hlg (hFF W h)
      rw [← E2] at HDO
      generalize doR (foldB bk0 (l.take k)) l[k] = R at *
      obtain ⟨re, rh, rs, rn⟩ := R
      have HE1 : Hid (rps (foldR bk0 (l.take (k + 1))) = rps (foldR bk0 (l.take k)) ++ [.int .i64 re, .int .i64 rh, .int .i64 rs, .int .i64 rn]) := by
        show _ = _
        rw [E1, rps_append, rps_one]
        rfl
      have HDX : Hid (∀ W, Fr No wr W → Calls Tryz.prog 9 #[.pointer (some ⟨r.p, 0, none⟩), .agg #[.int .i64 l[k].cl, .int .i64 l[k].sq, .int .i64 l[k].kd, .string l[k].acct, .string l[k].peer, .int .i64 l[k].sum, .slice B l[k].legs.length d, .int .i64 l[k].per, .int .i64 l[k].hold, .string l[k].note]] W fun e w' => e = .returned (.agg #[.int .i64 re, .int .i64 rh, .int .i64 rs, .int .i64 rn]) ∧ RbS w' r (foldB bk0 (l.take (k + 1))) ∧ Fr r.wr W w') := fun W h => HDO.out W h
      have hX : Hid (k + 1 ≤ maxLen ∧ (k + 1) * 32 ≤ 140737488355328) := by
        refine ⟨?_, ?_⟩ <;> (try simp only [maxLen]) <;> omega
      have HBK := Lib.hid hbk
      have HFR := Lib.hid hfr
      have HOW := Lib.hid hown
      clear HDO E1 E2 hW hFF hok hg hL hbk hfr hown hlg
      generalize hRS : foldR bk0 (l.take (k + 1)) = RS' at *
      have HRS := Lib.hid hRS
      clear hRS
      generalize foldR bk0 (l.take k) = RS at *
      generalize hbb : foldB bk0 (l.take (k + 1)) = bb' at *
      have HBB := Lib.hid hbb
      clear hbb
      generalize foldB bk0 (l.take k) = bb at *
      generalize l[k].legs = L at *
      generalize l[k].cl = cl at *
      generalize l[k].sq = sq at *
      generalize l[k].kd = kd at *
      generalize l[k].acct = acct at *
      generalize l[k].peer = peer at *
      generalize l[k].sum = sum at *
      generalize l[k].per = per at *
      generalize l[k].hold = hold at *
      generalize l[k].note = note at *
      go_wp2_with fail
      (with_reducible refine (HDX.out _ (Fr.refl _ wr)).mono ?_)
      rintro e w5 ⟨rfl, hb5, hg5⟩
      have hfar := own_farR HOW.out HBK.out
      have HW5 := Lib.hid (HOW.out.fr hg5 (fun i hi h => hfar i h hi))
      have HB5 := Lib.hid hb5
      have HF5 : Hid (Fr No w w5) := HFR.out.trans' hg5 (fun i hi hlt => absurd (HQ.out i hi) (by omega))
      clear hfar hb5 hg5 q0 q1 q2 q3 q4 q5 q6 q7 q8 q9
      go_wp2_with (at_builtin; refine wpList_app _ rfl (.tmp 14) (.tmp 21) 39 39 rfl elR (HW5.out.alloc _) rfl (Src.of_new w5.heap.size (heap_alloc_new w5 _) Tryz.underlying39 rfl (by simp [Value.oneCell'])) rfl hX.out.1 hX.out.2 ?_; intro v1 w3 hown3 hfr3 hnew3)
      go_roundw
      case rel =>
        refine ⟨k + 1, by omega, by go_num, ?_, ?_, ?_, ?_⟩
        · rw [HRS.out, HE1.out]
          exact hown3
        · rw [HBB.out]
          exact (HB5.out.no ((Fr.refl _ _).alloc _)).row (HW5.out.alloc _) hfr3
        · exact fr_no (HF5.out.alloc _) hnew hfr3
        · exact hnew.trans (Newer.of hnew3) (by have := HF5.out.size; simp; omega)
      case measure => simp [intOf]; omega
    · obtain rfl : k = l.length := by omega
      rw [List.take_length] at hown hbk
      obtain ⟨A1, c1, rfl, hl1, hm1⟩ := hown.form
      have HR := Lib.hid (hown.rd.more (G := fun k => w.heap.size ≤ k) fun k hk => newer_none hnew k hk)
      have HBK := Lib.hid hbk
      have HFR := Lib.hid hfr
      clear hown hbk hfr hnew
      go_wp2
      go_ret2
      exact ⟨A1, c1, r, rfl, HR.out, HBK.out, HFR.out, HQ.out, hl1, hm1⟩
end Go.Proofs.YtdooapnnohbjjaaGreat

namespace Go.Proofs.YtdooapnnohbjjaaGreat
open Go.RowKit Go.My Go.Maps Go.BigFrame
set_option linter.unusedSimpArgs false
set_option linter.unusedVariables false
attribute [local go_sem ↓] Go.wp_at_zero Go.wp_at_succ

def QR (q : Pl) (r : Rl) : Nat → Prop := fun i => q.wr i ∨ r.wr i
def BdRel (w4 : World) (q : Pl) (r : Rl) (os : List Od) (iv : Value) (wr : World) : Prop := ∃ k : Nat, k ≤ os.length ∧ iv = .int .i64 k ∧ BkS wr q (foldB bk0 (os.take k)) ∧ RbS wr r (foldB bk0 (os.take k)) ∧ Fr (QR q r) w4 wr
theorem doat2_any (w0 : World) (q : Pl) (b : Bk) (o : Od) (v : Value) (W : World) (h : BkS W q b) (ho : o.ok) (hL : LgS w0 (Lt w0.heap.size) v o.legs) (hb : Below w0.heap.size w0 W) (hq : ∀ i, q.all i → w0.heap.size ≤ i) :
    Calls Tryz.prog 8 #[.pointer (some ⟨q.p, 0, none⟩), .agg #[.int .i64 o.cl, .int .i64 o.sq, .int .i64 o.kd, .string o.acct, .string o.peer, .int .i64 o.sum, v, .int .i64 o.per, .int .i64 o.hold, .string o.note]] W fun e w' => e = .returned (.agg #[.int .i64 (doR b o).err, .int .i64 (doR b o).hv, .int .i64 (doR b o).st, .int .i64 (doR b o).num]) ∧ BkS w' q (doB b o) ∧ Fr q.wr W w' :=
  do_any _ q b o v W h ho (hL.below hb) (fun k hk => ⟨Nat.lt_of_lt_of_le hk hb.size, fun e => by have := hq q.m (.inr (.inr (.inl rfl))); have h1 : k < w0.heap.size := hk; omega⟩)
theorem rdoat_any (w0 : World) (r : Rl) (b : Bk) (o : Od) (v : Value) (W : World) (h : RbS W r b) (ho : o.ok) (hL : LgS w0 (Lt w0.heap.size) v o.legs) (h100 : o.legs.length ≤ 100) (hb : Below w0.heap.size w0 W) (hq : ∀ i, r.wr i → w0.heap.size ≤ i) :
    Calls Tryz.prog 9 #[.pointer (some ⟨r.p, 0, none⟩), .agg #[.int .i64 o.cl, .int .i64 o.sq, .int .i64 o.kd, .string o.acct, .string o.peer, .int .i64 o.sum, v, .int .i64 o.per, .int .i64 o.hold, .string o.note]] W fun e w' => e = .returned (.agg #[.int .i64 (doR b o).err, .int .i64 (doR b o).hv, .int .i64 (doR b o).st, .int .i64 (doR b o).num]) ∧ RbS w' r (doB b o) ∧ Fr r.wr W w' :=
  rdo_any _ r b o v W h ho (hL.below hb) h100 (fun k hk => ⟨Nat.lt_of_lt_of_le hk hb.size, fun e => by have := hq r.c (.inr (.inl rfl)); have h1 : k < w0.heap.size := hk; omega⟩)
set_option maxRecDepth 100000 in
set_option maxHeartbeats 4000000 in
theorem bookDoes_walk (A : Option Addr) (c : Nat) (l : List Od) (w : World) (hl : OdsS w w (Lt w.heap.size) A l) (hlc : l.length ≤ c) (hcm : c ≤ maxLen) :
    Calls Tryz.prog 3 #[.slice A l.length c] w (RetTrue w) := by
  have HFEW : Hid (∀ W, Below w.heap.size w W → Calls Tryz.prog 7 #[.slice A l.length c, .int .i64 80] W (FewRet w W (fewO l 80))) := fun W hW =>
    few9_any w W _ A c l 80 (hl.below hW (fun _ h => h)) hlc hcm (by omega)
  have H100 : Hid (∀ o ∈ fewO l 80, o.legs.length ≤ 100) := fun o ho => by
    unfold fewO at ho
    obtain ⟨o', h1, rfl⟩ := List.mem_map.1 ho
    show (o'.legs.take 10).length ≤ 100
    rw [List.length_take]
    omega
  have hMN : (fewO l 80).length ≤ 80 := by rw [fewO_length]; omega
  clear hl hlc hcm
  go_enter Tryz.func3, Tryz.ntmps3
  go_wp2_with fail
  (with_reducible refine (lives9 _).mono ?_)
  rintro e w1 ⟨rfl, hb1⟩
  go_wp2_with fail
  (with_reducible refine (newB_any _).mono ?_)
  rintro e w2 ⟨q, rfl, hb2, hf2, hq2⟩
  have HW2 : Hid (Below w.heap.size w w2) := below_fr_no hb1 hf2 hb1.size
  have HB2 := Lib.hid hb2
  have HQ : Hid (∀ i, q.all i → w.heap.size ≤ i) := fun i hi => by have := hq2 i hi; have := hb1.size; omega
  clear hb1 hb2 hf2 hq2
  go_wp2_with fail
  (with_reducible refine (newr_any _).mono ?_)
  rintro e wz ⟨r, rfl, hr2, hf2, hq2⟩
  have HR : Hid (∀ i, r.wr i → w.heap.size ≤ i) := fun i hi => by have := hq2 i hi; have := HW2.out.size; omega
  have HU2 : Hid (Below w.heap.size w wz) := below_fr_no HW2.out hf2 HW2.out.size
  have HR2 := Lib.hid hr2
  replace HB2 := Lib.hid (HB2.out.no hf2)
  clear hr2 hf2 hq2 HW2
  go_wp2_with fail
  (with_reducible refine (HFEW.out _ HU2.out).mono ?_)
  rintro e w3 ⟨A3, c3, rfl, hm3, hl3, hc3, hf3⟩
  have HW3 : Hid (Below w.heap.size w w3) := below_fr_no HU2.out hf3 HU2.out.size
  have HB3 := Lib.hid (HB2.out.no hf3)
  have HR3 := Lib.hid (HR2.out.no hf3)
  have HM3 := Lib.hid hm3
  have HQL : Hid (∀ i, QR q r i → i < wz.heap.size) := fun i hi => by
    rcases hi with h | h
    · exact HB2.out.lt i (Pl.wr_all h)
    · exact HR2.out.lt i h
  have HQW : Hid (∀ i, QR q r i → w.heap.size ≤ i) := fun i hi => by
    rcases hi with h | h
    · exact HQ.out i (Pl.wr_all h)
    · exact HR.out i h
  clear hm3 hf3 HFEW HB2 HR2 HU2
  generalize fewO l 80 = os at *
  go_wp2_with fail
  go_loopw [5] (fun iv wr => BdRel w3 q r os iv wr) (fun iv _ => os.length - (intOf iv).toNat)
  case atStart => exact ⟨0, Nat.zero_le _, rfl, HB3.out, HR3.out, Fr.refl _ _⟩
  case round =>
    obtain ⟨k, hk, rfl, hbk, hrk, hfr⟩ := hrel
    have HFR := Lib.hid hfr
    have HBK := Lib.hid hbk
    have HRK := Lib.hid hrk
    have HWR : Hid (Below w.heap.size w wr) := below_fr HW3.out hfr HW3.out.size HQW.out
    have HMR := Lib.hid (HM3.out.fr hfr (fun i hi _ h => by have := HQL.out i h; have : wz.heap.size ≤ i := hi; omega))
    clear hfr hbk hrk
    by_cases hlt : k < os.length
    · generalize wr = wo at *
      obtain ⟨ad, v, rfl, had, hok, hg, hL, q0, q1, q2, q3, q4, q5, q6, q7, q8, q9⟩ := HMR.out.at_ k hlt
      obtain ⟨B, d, rfl, hd1, hd2⟩ := hL.form
      obtain ⟨-, E2⟩ := fold_take bk0 os k hlt
      have hlg : os[k].legs.length ≤ 100 := H100.out _ (List.getElem_mem hlt)
      have HDO : Hid (∀ W, BkS W q (foldB bk0 (os.take k)) → Below w.heap.size w W → Calls Tryz.prog 8 #[.pointer (some ⟨q.p, 0, none⟩), .agg #[.int .i64 os[k].cl, .int .i64 os[k].sq, .int .i64 os[k].kd, .string os[k].acct, .string os[k].peer, .int .i64 os[k].sum, .slice B os[k].legs.length d, .int .i64 os[k].per, .int .i64 os[k].hold, .string os[k].note]] W fun e w' => e = .returned (.agg #[.int .i64 (doR (foldB bk0 (os.take k)) os[k]).err, .int .i64 (doR (foldB bk0 (os.take k)) os[k]).hv, .int .i64 (doR (foldB bk0 (os.take k)) os[k]).st, .int .i64 (doR (foldB bk0 (os.take k)) os[k]).num]) ∧ BkS w' q (foldB bk0 (os.take (k + 1))) ∧ Fr q.wr W w') := fun W h1 h2 => by
        refine (doat2_any w q _ os[k] _ W h1 hok hL h2 HQ.out).mono fun e w' hx => ⟨hx.1, ?_, hx.2.2⟩
        rw [E2]
        exact hx.2.1
      have HRO : Hid (∀ W, RbS W r (foldB bk0 (os.take k)) → Below w.heap.size w W → Calls Tryz.prog 9 #[.pointer (some ⟨r.p, 0, none⟩), .agg #[.int .i64 os[k].cl, .int .i64 os[k].sq, .int .i64 os[k].kd, .string os[k].acct, .string os[k].peer, .int .i64 os[k].sum, .slice B os[k].legs.length d, .int .i64 os[k].per, .int .i64 os[k].hold, .string os[k].note]] W fun e w' => e = .returned (.agg #[.int .i64 (doR (foldB bk0 (os.take k)) os[k]).err, .int .i64 (doR (foldB bk0 (os.take k)) os[k]).hv, .int .i64 (doR (foldB bk0 (os.take k)) os[k]).st, .int .i64 (doR (foldB bk0 (os.take k)) os[k]).num]) ∧ RbS w' r (foldB bk0 (os.take (k + 1))) ∧ Fr r.wr W w') := fun W h1 h2 => by
        refine (rdoat_any w r _ os[k] _ W h1 hok hL hlg h2 HR.out).mono fun e w' hx => ⟨hx.1, ?_, hx.2.2⟩
        rw [E2]
        exact hx.2.1
      have HAD : Hid (¬ QR q r ad.block) := fun h => by have := HQL.out _ h; have : wz.heap.size ≤ ad.block := had; omega
      have HX : Hid (∀ W, Fr (QR q r) wo W → Fr (QR q r) wo W ∧ W.cell? (ad.add (k * 10)) = some (.int .i64 os[k].cl) ∧ W.cell? ⟨(ad.add (k * 10)).block, (ad.add (k * 10)).off + 1, none⟩ = some (.int .i64 os[k].sq) ∧ W.cell? ⟨(ad.add (k * 10)).block, (ad.add (k * 10)).off + 2, none⟩ = some (.int .i64 os[k].kd) ∧ W.cell? ⟨(ad.add (k * 10)).block, (ad.add (k * 10)).off + 3, none⟩ = some (.string os[k].acct) ∧ W.cell? ⟨(ad.add (k * 10)).block, (ad.add (k * 10)).off + 4, none⟩ = some (.string os[k].peer) ∧ W.cell? ⟨(ad.add (k * 10)).block, (ad.add (k * 10)).off + 5, none⟩ = some (.int .i64 os[k].sum) ∧ W.cell? ⟨(ad.add (k * 10)).block, (ad.add (k * 10)).off + 6, none⟩ = some (.slice B os[k].legs.length d) ∧ W.cell? ⟨(ad.add (k * 10)).block, (ad.add (k * 10)).off + 7, none⟩ = some (.int .i64 os[k].per) ∧ W.cell? ⟨(ad.add (k * 10)).block, (ad.add (k * 10)).off + 8, none⟩ = some (.int .i64 os[k].hold) ∧ W.cell? ⟨(ad.add (k * 10)).block, (ad.add (k * 10)).off + 9, none⟩ = some (.string os[k].note)) := fun W hW =>
        ⟨hW, hW.cell_some q0 (by simp only [block_of_add]; exact HAD.out), hW.cell_some q1 (by simp only [block_of_add]; exact HAD.out), hW.cell_some q2 (by simp only [block_of_add]; exact HAD.out), hW.cell_some q3 (by simp only [block_of_add]; exact HAD.out), hW.cell_some q4 (by simp only [block_of_add]; exact HAD.out), hW.cell_some q5 (by simp only [block_of_add]; exact HAD.out), hW.cell_some q6 (by simp only [block_of_add]; exact HAD.out), hW.cell_some q7 (by simp only [block_of_add]; exact HAD.out), hW.cell_some q8 (by simp only [block_of_add]; exact HAD.out), hW.cell_some q9 (by simp only [block_of_add]; exact HAD.out)⟩
      clear hok hg hL E2 hlg q0 q1 q2 q3 q4 q5 q6 q7 q8 q9 had
      generalize doR (foldB bk0 (os.take k)) os[k] = R at *
      obtain ⟨re, rh, rs, rn⟩ := R
      simp only at HDO HRO
      generalize hbb : foldB bk0 (os.take (k + 1)) = b' at *
      have HBB := Lib.hid hbb
      clear hbb
      generalize foldB bk0 (os.take k) = b at *
      generalize os[k].legs = L at *
      generalize os[k].cl = cl at *
      generalize os[k].sq = sq at *
      generalize os[k].kd = kd at *
      generalize os[k].acct = acct at *
      generalize os[k].peer = peer at *
      generalize os[k].sum = sum at *
      generalize os[k].per = per at *
      generalize os[k].hold = hold at *
      generalize os[k].note = note at *
      have HWW : Hid (∀ W, Fr (QR q r) wo W → Below w.heap.size w W) := fun W h => below_fr HWR.out h HWR.out.size HQW.out
      have hw : Fr (QR q r) wo wo.drew := (Fr.refl _ wo).drew
      go_upto_region 8 with (fail)
      go_region_held3 (fun W => Fr (QR q r) wo W ∧ W.cell? (ad.add (k * 10)) = some (.int .i64 cl) ∧ W.cell? ⟨(ad.add (k * 10)).block, (ad.add (k * 10)).off + 1, none⟩ = some (.int .i64 sq) ∧ W.cell? ⟨(ad.add (k * 10)).block, (ad.add (k * 10)).off + 2, none⟩ = some (.int .i64 kd) ∧ W.cell? ⟨(ad.add (k * 10)).block, (ad.add (k * 10)).off + 3, none⟩ = some (.string acct) ∧ W.cell? ⟨(ad.add (k * 10)).block, (ad.add (k * 10)).off + 4, none⟩ = some (.string peer) ∧ W.cell? ⟨(ad.add (k * 10)).block, (ad.add (k * 10)).off + 5, none⟩ = some (.int .i64 sum) ∧ W.cell? ⟨(ad.add (k * 10)).block, (ad.add (k * 10)).off + 6, none⟩ = some (.slice B L.length d) ∧ W.cell? ⟨(ad.add (k * 10)).block, (ad.add (k * 10)).off + 7, none⟩ = some (.int .i64 per) ∧ W.cell? ⟨(ad.add (k * 10)).block, (ad.add (k * 10)).off + 8, none⟩ = some (.int .i64 hold) ∧ W.cell? ⟨(ad.add (k * 10)).block, (ad.add (k * 10)).off + 9, none⟩ = some (.string note))
        (first
          | (refine HX.out _ ?_; with_reducible assumption)
          | (refine HX.out _ (Fr.drew ?_); with_reducible first | assumption | exact Fr.refl _ wo))
        (first
          | (go_at_call 8; (with_reducible refine (HDO.out _ (HBK.out.no (Fr.refl _ wo).drew) (HWW.out _ hw)).mono ?_); rintro e u3 ⟨rfl, hb3, hg3⟩; have ka1 : Fr (QR q r) wo u3 := hw.trans (hg3.mono fun _ _ h => .inl h); have hr3 := (HRK.out.no (Fr.refl _ wo).drew).real (HBK.out.no (Fr.refl _ wo).drew) hg3; clear hg3)
          | (go_at_call 9; (with_reducible refine (HRO.out _ hr3 (HWW.out _ ka1)).mono ?_); rintro e u4 ⟨rfl, hr4, hg4⟩; have ka2 : Fr (QR q r) wo u4 := ka1.trans (hg4.mono fun _ _ h => .inr h); have hb4 := hb3.ref hr3 hg4; clear hg4)
          | (go_at_call 10; (with_reducible refine (like_any q r b' _ hb4 hr4).mono ?_); rintro e u5 ⟨rfl, hg5⟩; have ka3 : Fr (QR q r) wo u5 := ka2.trans (hg5.mono fun _ _ h => False.elim h)))
      clear HX HWW HDO HRO hw
      go_wp2
      go_roundw
      case rel => exact ⟨k + 1, by omega, by go_num, by rw [HBB.out]; exact hb4.no hg5, by rw [HBB.out]; exact hr4.no hg5, HFR.out.trans ka3⟩
      case measure => simp [intOf]; omega
    · obtain rfl : k = os.length := by omega
      rw [List.take_length] at HBK HRK
      clear HFR HM3 HB3 HR3
      go_wp2_with fail
      (with_reducible refine (fold_any w _ _ A3 c3 os HMR.out HWR.out (by omega)).mono ?_)
      rintro e w5 ⟨A5, c5, q5, rfl, hrd5, hb5, hf5, -, hl5, hm5⟩
      have HW5 : Hid (Below w.heap.size w w5) := below_fr_no HWR.out hf5 HWR.out.size
      have HM5 := Lib.hid (HMR.out.fr hf5 (fun _ _ _ h => h))
      have HBK5 := Lib.hid (HBK.out.no hf5)
      have HB5 := Lib.hid hb5
      have HRD5 := Lib.hid hrd5
      clear hrd5 hb5 hf5 HMR HWR HBK HRK
      go_wp2_with fail
      (with_reducible refine (rfold_any w _ _ A3 c3 os HM5.out HW5.out (by omega) H100.out).mono ?_)
      rintro e w6 ⟨A6, c6, r6, rfl, hrd6, hr6, hf6, -, hl6, hm6⟩
      have HW6 : Hid (Below w.heap.size w w6) := below_fr_no HW5.out hf6 HW5.out.size
      have HBK6 := Lib.hid (HBK5.out.no hf6)
      have HB6 := Lib.hid (HB5.out.no hf6)
      have HR6 := Lib.hid hr6
      have HSR := Lib.hid (samereps_any _ _ A5 A6 c5 c6 (foldR bk0 os) os.length w6 (foldR_length bk0 os).symm (HRD5.out.fr (by omega) hf6 (fun _ _ _ h => h)) hrd6 (by omega))
      clear hrd6 hr6 hf6 HRD5 HM5 HBK5 HB5 HW5
      go_wp2_with fail
      (with_reducible refine HSR.out.mono ?_)
      rintro e w7 ⟨rfl, hf7⟩
      have HW7 : Hid (Below w.heap.size w w7) := below_fr_no HW6.out hf7 HW6.out.size
      have HBK7 := Lib.hid (HBK6.out.no hf7)
      have HB7 := Lib.hid (HB6.out.no hf7)
      have HR7 := Lib.hid (HR6.out.no hf7)
      clear hf7 HSR HBK6 HB6 HR6 HW6
      go_wp2_with fail
      (with_reducible refine (like_any q5 r6 _ _ HB7.out HR7.out).mono ?_)
      rintro e w8 ⟨rfl, hf8⟩
      have HW8 : Hid (Below w.heap.size w w8) := below_fr_no HW7.out hf8 HW7.out.size
      have HSM := Lib.hid (bsame_any q q5 _ _ w8 (HBK7.out.no hf8) (HB7.out.no hf8))
      rw [sameBk_refl] at HSM
      clear hf8 HBK7 HB7 HR7 HW7
      go_wp2_with fail
      (with_reducible refine HSM.out.mono ?_)
      rintro e w9 ⟨rfl, hf9⟩
      have HW9 : Hid (Below w.heap.size w w9) := below_fr_no HW8.out hf9 HW8.out.size
      clear hf9 HSM
      go_wp2
      go_ret
      exact ⟨rfl, HW9.out⟩
end Go.Proofs.YtdooapnnohbjjaaGreat
