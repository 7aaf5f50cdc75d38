/- Run. Commit. -/
import Derived.Test.YtcpgamidimfflaaGreatQ34
import Derived.Deep.CutBlock
namespace Go.Proofs.YtcpgamidimfflaaGreat
open Go.RowKit Go.My Go.Maps
set_option linter.unusedSimpArgs false
set_option linter.unusedVariables false
attribute [local go_sem ↓] Go.wp_at_zero Go.wp_at_succ
def RnL (r : Pr) (s : Ru) (row : List In2) (w0 : World) (lv iv : Value) (wr : World) : Prop :=
  ∃ (k : Nat) (rl : Value), k ≤ row.length ∧ iv = .int .i64 (k : Int) ∧ Own wr 82 9 lv (s.execsD (row.take k)).length (dds (s.execsD (row.take k))) ∧ Newer w0.heap.size none lv.ownBlock ∧ RnM wr { r with lv := rl } (s.execs (row.take k)) ∧ Fr r.wr w0 wr ∧ (rl.ownBlock = r.lv.ownBlock ∨ ∃ b, rl.ownBlock = some b ∧ w0.heap.size ≤ b)
theorem RnL.stepN {r : Pr} {s : Ru} {row : List In2} {w0 wr w2 : World} {lv rl : Value} {k : Nat} {i : In2} {e : En} (hk : k < row.length) (hi : row[k] = i) (he : (s.execs (row.take k)).get i = some e) (hn : e.none = true)
    (ho : Own wr 82 9 lv (s.execsD (row.take k)).length (dds (s.execsD (row.take k)))) (hw : Newer w0.heap.size none lv.ownBlock) (hf : Fr r.wr w0 wr) (hl : rl.ownBlock = r.lv.ownBlock ∨ ∃ b, rl.ownBlock = some b ∧ w0.heap.size ≤ b)
    (h2 : RnM w2 { r with lv := rl } ((s.execs (row.take k)).ex1 i)) (hf2 : Fr (At1 r.wm) wr w2) (hlw : lv.ownBlock ≠ some r.wm) : RnL r s row w0 lv (.int .i64 ((k + 1 : Nat) : Int)) w2 := by
  have e1 : row.take (k + 1) = row.take k ++ [i] := by rw [List.take_succ_eq_append_getElem hk, hi]
  obtain ⟨e2, e3⟩ := execs_snoc s (row.take k) i
  have e4 : (s.execs (row.take k)).exec i = (s.execs (row.take k)).ex1 i := by unfold Ru.exec; rw [he]; simp only; rw [if_pos hn]
  have e5 : (s.execs (row.take k)).execD i = [] := by unfold Ru.execD; rw [he]; simp only; rw [if_pos hn]
  refine ⟨k + 1, rl, hk, rfl, ?_, hw, ?_, hf.trans' hf2 (fun j hj hlt => .inr (.inr (.inl hj))), hl⟩
  · rw [e1, e3, e5, List.append_nil]
    exact ho.fr hf2 fun j hj ej => by
      have ej : j = r.wm := ej
      exact hlw (ej ▸ hj)
  · rw [e1, e2, e4]
    exact h2
theorem RnL.stepS {r : Pr} {s : Ru} {row : List In2} {w0 wr w4 w5 w7 : World} {lv rl lv7 : Value} {k : Nat} {i : In2} {e : En} (hk : k < row.length) (hi : row[k] = i) (he : (s.execs (row.take k)).get i = some e) (hn : e.none = false)
    (hw : Newer w0.heap.size none lv.ownBlock) (hf : Fr r.wr w0 wr) (hl : rl.ownBlock = r.lv.ownBlock ∨ ∃ b, rl.ownBlock = some b ∧ w0.heap.size ≤ b) (h24 : Fr (At1 r.wm) wr w4) (hE0 : ∀ k, r.E k → k < w0.heap.size)
    {d : Dd} (hd : d = ((s.execs (row.take k)).ex1 i).exD i e.o) (hx : ExcM { r with lv := rl } w4 (((s.execs (row.take k)).ex1 i).exO e.o) w5) (ho5 : Own w5 82 9 lv (s.execsD (row.take k)).length (dds (s.execsD (row.take k))))
    (ho7 : Own w7 82 9 lv7 ((s.execsD (row.take k)).length + 1) (dds (s.execsD (row.take k)) ++ ddC d)) {o : Obj} (hf7 : Fr (AtO lv.ownBlock) (w5.alloc o) w7) (hn7 : lv7.ownBlock = lv.ownBlock ∨ lv7.ownBlock = Option.some (w5.alloc o).heap.size) : RnL r s row w0 lv7 (.int .i64 ((k + 1 : Nat) : Int)) w7 := by
  have e1 : row.take (k + 1) = row.take k ++ [i] := by rw [List.take_succ_eq_append_getElem hk, hi]
  obtain ⟨e2, e3⟩ := execs_snoc s (row.take k) i
  have e4 : (s.execs (row.take k)).exec i = ((s.execs (row.take k)).ex1 i).exO e.o := by unfold Ru.exec; rw [he]; simp only; rw [if_neg (by rw [hn]; decide)]
  have e5 : (s.execs (row.take k)).execD i = [d] := by
    unfold Ru.execD
    rw [he, hd]
    simp only
    rw [if_neg (by rw [hn]; decide)]
    rfl
  obtain ⟨rl2, hm5, hf5, hl5⟩ := hx
  have hw5 : Fr r.wr w0 w5 := (hf.trans' h24 (fun j hj hlt => .inr (.inr (.inl hj)))).trans' hf5 (fun j hj hlt => by
    rcases hj with hj | hj | hj | hj
    · exact .inl hj
    · exact .inr (.inr (.inr (.inl hj)))
    · exact .inr (.inr (.inr (.inr (.inl hj))))
    · rcases hl with h | ⟨b, h, hb⟩
      · exact .inr (.inr (.inr (.inr (.inr (h ▸ hj)))))
      · have hj : rl.ownBlock = Option.some j := hj
        rw [h] at hj
        injection hj with hj
        omega)
  have h04 := hf.size
  have h44 := h24.size
  have h45 := hf5.size
  have hm7 : RnM w7 { r with lv := rl2 } (((s.execs (row.take k)).ex1 i).exO e.o) := by
    refine (hm5.no ((Fr.refl _ _).alloc o)).fr hf7 fun j hj ej => ?_
    refine hm5.apart ho5 (fun b hb hEb => ?_) j hj ej
    have := hE0 b hEb
    rcases hw with h | ⟨b', h, hb'⟩
    · rw [h] at hb; cases hb
    · rw [h] at hb; injection hb with hb; omega
  refine ⟨k + 1, rl2, hk, rfl, ?_, ?_, ?_, (hw5.trans' ((Fr.refl No _).alloc o) (fun _ h _ => False.elim h)).trans' hf7 (fun j hj hlt => ?_), ?_⟩
  · rw [e1, e3, e5, dds_append, dds_one, List.length_append]
    exact ho7
  · refine hw.trans (Newer.of hn7) ?_
    rw [World.size_alloc]
    omega
  · rw [e1, e2, e4]
    exact hm7
  · rcases hw with h | ⟨b, h, hb⟩
    · have hj : lv.ownBlock = Option.some j := hj
      rw [h] at hj; cases hj
    · have hj : lv.ownBlock = Option.some j := hj
      rw [h] at hj; injection hj with hj; omega
  · rcases hl5 with h | ⟨b, h, hb⟩
    · rcases hl with h' | ⟨b', h', hb'⟩
      · exact .inl (h.trans h')
      · exact .inr ⟨b', h.trans h', hb'⟩
    · exact .inr ⟨b, h, by omega⟩
def RetDd (w : World) (D : List Dd) (e : Ending) (w' : World) : Prop := ∃ A c, e = .returned (.slice A D.length c) ∧ Own w' 82 9 (.slice A D.length c) D.length (dds D) ∧ Newer w.heap.size none (Value.slice A D.length c).ownBlock
set_option maxRecDepth 100000 in
set_option maxHeartbeats 8000000 in
theorem rrun_any (w : World) (r : Pr) (s : Ru) (h : RnS w r s) (hn : s.ks.length ≤ 60) (hm : ∀ i, (s.dp i).length ≤ 30) :
    Calls Tryz.prog 18 #[.pointer (some ⟨r.p, 0, none⟩)] w fun e w' => ∃ row, RunOf s row ∧ RetDd w (s.execsD row) e w' ∧ ChgRn r w (s.execs row) w' := by
  have HOP := Lib.hid (ropen_any w r s h hn hm)
  have HIO : Hid (∀ (W : World) (F : Nat → Prop) (A : Option Addr) (c : Nat) (O : List In2), Fr No w W → O.Nodup → (∀ a, a ∈ O ↔ Opn s.ks s.dp a ∧ s.wt a = true) → Rd W F 2 A O.length (ins2 O) → Calls Tryz.prog 53 #[.pointer (some ⟨r.p, 0, none⟩), .slice A O.length c] W (RowRet W F s)) := Lib.hid fun W F A c O hW h1 h2 h3 => rinorder_any W r s F A c O (h.no hW) hn hm h1 h2 h3
  have HH := Lib.hid h
  have HNK := Lib.hid hn
  clear h hn hm
  go_enter Tryz.func18, Tryz.ntmps18
  go_wp2_with (first
    | (go_at_call 54; (with_reducible refine HOP.out.mono ?_); rintro _ wa ⟨O, hO1, hO2, v1, rfl, ho1, hf1, hn1⟩; obtain ⟨A1, c1, rfl, -, -⟩ := ho1.form; have HO1 := Lib.hid ho1; have HF1 := Lib.hid (fr_at_none hf1); have HN1 := Lib.hid hn1; have HOA := Lib.hid hO1; have HOB := Lib.hid hO2; clear ho1 hf1 hn1 hO1 hO2)
    | (go_at_call 53; (with_reducible refine (HIO.out wa _ A1 c1 O HF1.out HOA.out HOB.out (HO1.out.rd.lt (by omega))).mono ?_); rintro _ w0 ⟨row, A, c, hr0, rfl, hr1, hf2⟩; have HRO := Lib.hid hr0; have HRD := Lib.hid hr1; have HF2 := Lib.hid (HF1.out.trans hf2); have HF12 := Lib.hid hf2; clear hr0 hr1 hf2))
  have HRW : Hid (Rd w0 (fun k => w.heap.size ≤ k ∧ k < w0.heap.size) 2 A row.length (ins2 row)) := Lib.hid ((HRD.out.lt (by omega)).more fun k hk => ⟨by
    rcases hk.1 with h | h
    · have h1 := h.1
      rcases HN1.out with e | ⟨j, e, hj⟩
      · rw [e] at h1; cases h1
      · rw [e] at h1; injection h1 with h1; omega
    · have := HF1.out.size
      omega, hk.2⟩)
  have H0 : Hid (RnS w0 r s) := Lib.hid (HH.out.no HF2.out)
  have HALT : Hid (∀ k, r.all k → k < w.heap.size) := Lib.hid HH.out.toRnM.alt
  have hrl : row.length ≤ 60 := Nat.le_trans (nodup_len HRO.out.1 fun i hi => ((HRO.out.2.1 i).1 hi).1.1).1 HNK.out
  clear HO1 HF1 HN1 HOA HOB HRD HF12 HOP HIO HH HNK
  go_loopw [3, 14] (fun lv iv wr => RnL r s row w0 lv iv wr) (fun _ iv _ => row.length - (intOf iv).toNat)
  case atStart => exact ⟨0, r.lv, Nat.zero_le _, rfl, Own.nil _ _ _, .inl rfl, H0.out.toRnM, Fr.refl _ _, .inl rfl⟩
  case round =>
    obtain ⟨k, rl, hk, rfl, hown, hnew, hm, hfr, hrl2⟩ := hrel
    by_cases hlt : k < row.length
    · have hnw : ∀ j, (w.heap.size ≤ j ∧ j < w0.heap.size) → j < w0.heap.size → ¬ r.wr j := fun j hj _ e => by have := HALT.out j (.inl e); omega
      obtain ⟨ad, rfl, _, p0, p1⟩ := in2_at (HRW.out.fr (by decide) hfr hnw) k hlt
      have hio := (HRO.out.2.1 _).1 (List.getElem_mem hlt)
      have hik := rightI_ok (H0.out.inv.ri _ hio.1.1)
      obtain ⟨e, he⟩ : ∃ e, s.get row[k] = some e := Option.isSome_iff_exists.1 (Ru.get_mem.2 hio.1.1)
      have hri := H0.out.inv.right _ (getS_some he)
      have heok := H0.out.inv.ok _ (getS_some he)
      have hgk : (s.execs (row.take k)).get row[k] = some e := by rw [execs_get]; exact he
      obtain ⟨Av, cv, rfl, -, -⟩ := hown.form
      obtain ⟨i, hi⟩ : ∃ i, row[k] = i := ⟨_, rfl⟩
      rw [hi] at p0 p1 hik hgk
      have hE0 := H0.out.lt
      have hlv : (Value.slice Av (s.execsD (row.take k)).length cv).ownBlock ≠ some r.wm := fun h => by
        obtain ⟨cur, hb⟩ := hown.blk _ h
        exact hm.wt.ne_ hb rfl
      have hdl : (s.execsD (row.take k)).length ≤ 60 := by
        have h1 := execsD_len (row.take k) s
        rw [List.length_take] at h1
        omega
      have HSN : Hid (∀ w2, e.none = true → RnM w2 { r with lv := rl } ((s.execs (row.take k)).ex1 i) → Fr (At1 r.wm) wr w2 → RnL r s row w0 (.slice Av (s.execsD (row.take k)).length cv) (.int .i64 ((k + 1 : Nat) : Int)) w2) := Lib.hid fun w2 h1 h2 h3 => RnL.stepN hlt hi hgk h1 hown hnew hfr hrl2 h2 h3 hlv
      have HSS : Hid (∀ (w4 w5 w7 : World) (lv7 : Value) (o : Obj), e.none = false → Fr (At1 r.wm) wr w4 → ExcM { r with lv := rl } w4 (((s.execs (row.take k)).ex1 i).exO e.o) w5 → Own w5 82 9 (.slice Av (s.execsD (row.take k)).length cv) (s.execsD (row.take k)).length (dds (s.execsD (row.take k))) →
          Own w7 82 9 lv7 ((s.execsD (row.take k)).length + 1) (dds (s.execsD (row.take k)) ++ ddC (((s.execs (row.take k)).ex1 i).exD i e.o)) → Fr (AtO (Value.slice Av (s.execsD (row.take k)).length cv).ownBlock) (w5.alloc o) w7 → (lv7.ownBlock = (Value.slice Av (s.execsD (row.take k)).length cv).ownBlock ∨ lv7.ownBlock = some (w5.alloc o).heap.size) → RnL r s row w0 lv7 (.int .i64 ((k + 1 : Nat) : Int)) w7) := Lib.hid fun w4 w5 w7 lv7 o h1 h2 h3 h4 h5 h6 h7 => RnL.stepS hlt hi hgk h1 hnew hfr hrl2 h2 hE0 rfl h3 h4 h5 h6 h7
      have hap : ∀ j, (Value.slice Av (s.execsD (row.take k)).length cv).ownBlock = some j → ¬ r.E j := fun j hj hEj => by
        have := hE0 j hEj
        rcases hnew with h | ⟨b', h, hb'⟩
        · rw [h] at hj; cases hj
        · rw [h] at hj; injection hj with hj; omega
      have HAP := Lib.hid hap
      have HOW := Lib.hid hown
      have HM := Lib.hid hm
      have HLV := Lib.hid hlv
      have HRI := Lib.hid hri
      have HEO := Lib.hid heok
      have HGK := Lib.hid hgk
      have HIK := Lib.hid hik
      clear hio he hi hE0 hlv hown hnew hm hfr hrl2 hap hri heok hgk hnw hik
      generalize s.execs (row.take k) = sk at *
      generalize (s.execsD (row.take k)).length = nd at *
      generalize dds (s.execsD (row.take k)) = XS at *
      obtain ⟨i1, i2⟩ := i
      simp only at p0 p1
      have hW1 : RnM (wr.alloc (.cells #[.int .i64 i1, .int .i64 i2] 30)) { r with lv := rl } sk := HM.out.no ((Fr.refl _ _).alloc _)
      have hb1 := Blk.new wr 30 #[.int .i64 i1, .int .i64 i2]
      have hf1 : Fr No wr (wr.alloc (.cells #[.int .i64 i1, .int .i64 i2] 30)) := (Fr.refl _ _).alloc _
      go_upto_region 7 with (fail)
      generalize hg : wr.heap.size = g at *
      generalize wr.alloc (.cells #[.int .i64 i1, .int .i64 i2] 30) = W1 at *
      obtain ⟨w2, hrun, hwt2, hf2⟩ := (hW1.wt.fr (S := No) (w' := W1.drew) (Fr.refl _ _).drew (fun h => h)).del (i1, i2) HIK.out 0
      have hf2' : Fr (At1 r.wm) W1 w2 := Fr.trans (Fr.drew (Fr.refl _ _)) hf2
      have hgw : ¬ At1 r.wm g := fun e => by have e : g = r.wm := e; have := HM.out.wt.lt; rw [hg] at this; have h9 : r.wm < g := this; omega
      have HX7 : Hid (∀ W, Fr (At1 r.wm) W1 W → Fr (At1 r.wm) W1 W ∧ W.cell? ⟨r.p, 1, none⟩ = some (.map (some r.wm)) ∧ W.cell? ⟨g, 0, none⟩ = some (.int .i64 i1) ∧ W.cell? ⟨g, 1, none⟩ = some (.int .i64 i2)) := Lib.hid fun W hW => by
        have k1 := hW1.blk.fr hW (fun e => hW1.new_.1 (Eq.symm e))
        have k2 := hb1.fr hW hgw
        exact ⟨hW, k1.cell 1, k2.cell 0, k2.cell 1⟩
      have hk7 : Fr (At1 r.wm) W1 W1.drew := (Fr.refl _ _).drew
      have HM2 : Hid (RnM w2 { r with lv := rl } (sk.ex1 (i1, i2))) := Lib.hid (hW1.del (i1, i2) hwt2 hf2')
      have HF2 : Hid (Fr (At1 r.wm) wr w2) := Lib.hid ((hf1.mono fun _ _ h => False.elim h : Fr (At1 r.wm) wr W1).trans hf2')
      have HB2 := Lib.hid (hb1.fr hf2' hgw)
      clear hW1 hwt2 hf2 hgw hb1 hf1 hg
      simp only at hrun
      go_region_held3 (fun W => Fr (At1 r.wm) W1 W ∧ W.cell? ⟨r.p, 1, none⟩ = some (.map (some r.wm)) ∧ W.cell? ⟨g, 0, none⟩ = some (.int .i64 i1) ∧ W.cell? ⟨g, 1, none⟩ = some (.int .i64 i2))
        (with_reducible refine HX7.out _ ?_; with_reducible assumption)
        (fail)
      clear HX7 hrun hf2' hk7 p0 p1
      obtain ⟨B, A2, b, c2, hen, hlook⟩ := HM2.out.look HIK.out (show (sk.ex1 (i1, i2)).get (i1, i2) = some e from HGK.out)
      have HLG := Lib.hid hen.legs
      clear hen
      have HEXC : Hid (∀ w4, Fr No w2 w4 → e.none = false → Calls Tryz.prog 55 #[.pointer (some ⟨r.p, 0, none⟩), .agg #[.int .i64 i1, .int .i64 i2], e.o.val (.slice B e.o.legs.length b)] w4 fun x w' => x = .returned (.agg (ddC ((sk.ex1 (i1, i2)).exD (i1, i2) e.o)).toArray) ∧ ExcM { r with lv := rl } w4 ((sk.ex1 (i1, i2)).exO e.o) w') := Lib.hid fun w4 h4 hn => exec_any w4 { r with lv := rl } (sk.ex1 (i1, i2)) (i1, i2) e.o B b (HM2.out.no h4) HEO.out (rightE_o HRI.out hn) (HLG.out.no h4)
      generalize (sk.ex1 (i1, i2)).exD (i1, i2) e.o = d at *
      generalize (sk.ex1 (i1, i2)).exO e.o = s5 at *
      clear HRI HEO HLG HGK
      obtain ⟨⟨a0, a1, a2, a3, a4, a5, lg, a6, a7, a8⟩, bn, ds⟩ := e
      unfold En.val at hlook
      unfold Od.val Od.cs at HEXC
      simp only at hlook HEXC HSN HSS
      have HX8 : Hid (∀ W, Fr No w2 W → Fr No w2 W ∧ W.cell? ⟨r.p, 0, none⟩ = some (.map (some r.km)) ∧ W.cell? ⟨g, 0, none⟩ = some (.int .i64 i1) ∧ W.cell? ⟨g, 1, none⟩ = some (.int .i64 i2) ∧ (Instr.lookup 88 (.map (some r.km)) (.agg #[.int .i64 i1, .int .i64 i2]) false).run Tryz.prog W = .ok (.agg #[.int .i64 a0, .int .i64 a1, .int .i64 a2, .string a3, .string a4, .int .i64 a5, .slice B lg.length b, .int .i64 a6, .int .i64 a7, .string a8, .bool bn, .slice A2 ds.length c2]) W) := Lib.hid fun W hW => by
        have k1 := HM2.out.blk.fr hW (fun h => h)
        have k2 := HB2.out.fr hW (fun h => h)
        exact ⟨hW, k1.cell 0, k2.cell 0, k2.cell 1, hlook W hW⟩
      clear hlook
      go_upto_region 8 with (fail)
      go_cut [6] (fun sx wx => sx = .pointer (some ⟨w2.heap.size, 0, none⟩) ∧ wx = (w2.alloc (.cells #[.int .i64 a0, .int .i64 a1, .int .i64 a2, .string a3, .string a4, .int .i64 a5, .slice B lg.length b, .int .i64 a6, .int .i64 a7, .string a8, .bool bn, .slice A2 ds.length c2] 38)).drew)
      case first =>
        have hk0 : Fr No w2 w2.drew := (Fr.refl _ w2).drew
        have hz := (Blk.new w2 38 #[.int .i64 0, .int .i64 0, .int .i64 0, .string ⟨#[]⟩, .string ⟨#[]⟩, .int .i64 0, .slice none 0 0, .int .i64 0, .int .i64 0, .string ⟨#[]⟩, .bool false, .slice none 0 0]).fr (S := No) (w' := (w2.alloc (.cells #[.int .i64 0, .int .i64 0, .int .i64 0, .string ⟨#[]⟩, .string ⟨#[]⟩, .int .i64 0, .slice none 0 0, .int .i64 0, .int .i64 0, .string ⟨#[]⟩, .bool false, .slice none 0 0] 38)).drew) (Fr.drew (Fr.refl _ _)) (fun h => h)
        have z0 := hz.cell 0
        have y0 := hz.frozen 0
        have z1 := hz.cell 1
        have y1 := hz.frozen 1
        have z2 := hz.cell 2
        have y2 := hz.frozen 2
        have z3 := hz.cell 3
        have y3 := hz.frozen 3
        have z4 := hz.cell 4
        have y4 := hz.frozen 4
        have z5 := hz.cell 5
        have y5 := hz.frozen 5
        have z6 := hz.cell 6
        have y6 := hz.frozen 6
        have z7 := hz.cell 7
        have y7 := hz.frozen 7
        have z8 := hz.cell 8
        have y8 := hz.frozen 8
        have z9 := hz.cell 9
        have y9 := hz.frozen 9
        have z10 := hz.cell 10
        have y10 := hz.frozen 10
        have z11 := hz.cell 11
        have y11 := hz.frozen 11
        simp only [List.getElem?_toArray, List.getElem?_cons_zero, List.getElem?_cons_succ] at z0 z1 z2 z3 z4 z5 z6 z7 z8 z9 z10 z11
        clear hz
        go_region_held3 (fun W => Fr No w2 W ∧ W.cell? ⟨r.p, 0, none⟩ = some (.map (some r.km)) ∧ W.cell? ⟨g, 0, none⟩ = some (.int .i64 i1) ∧ W.cell? ⟨g, 1, none⟩ = some (.int .i64 i2) ∧ (Instr.lookup 88 (.map (some r.km)) (.agg #[.int .i64 i1, .int .i64 i2]) false).run Tryz.prog W = .ok (.agg #[.int .i64 a0, .int .i64 a1, .int .i64 a2, .string a3, .string a4, .int .i64 a5, .slice B lg.length b, .int .i64 a6, .int .i64 a7, .string a8, .bool bn, .slice A2 ds.length c2]) W)
          (first
            | (with_reducible refine HX8.out _ ?_; with_reducible assumption)
            | (with_reducible refine HX8.out _ ?_; exact Fr.drew ((Fr.refl _ _).alloc _))
            | (with_reducible refine HX8.out _ ?_; exact fr_new12 (Fr.drew ((Fr.refl _ _).alloc _)) _ (Nat.le_refl _) _ _ _ _ _ _ _ _ _ _ _ _))
          (fail)
        all_goals
          go_wp2
          go_meet
          exact ⟨rfl, rfl⟩
      case rest =>
      obtain ⟨rfl, rfl⟩ := hcut
      have hF24 : Fr No w2 (w2.alloc (.cells #[.int .i64 a0, .int .i64 a1, .int .i64 a2, .string a3, .string a4, .int .i64 a5, .slice B lg.length b, .int .i64 a6, .int .i64 a7, .string a8, .bool bn, .slice A2 ds.length c2] 38)).drew := Fr.drew ((Fr.refl _ _).alloc _)
      have hx4 := (Blk.new w2 38 #[.int .i64 a0, .int .i64 a1, .int .i64 a2, .string a3, .string a4, .int .i64 a5, .slice B lg.length b, .int .i64 a6, .int .i64 a7, .string a8, .bool bn, .slice A2 ds.length c2]).fr (S := No) (w' := (w2.alloc (.cells #[.int .i64 a0, .int .i64 a1, .int .i64 a2, .string a3, .string a4, .int .i64 a5, .slice B lg.length b, .int .i64 a6, .int .i64 a7, .string a8, .bool bn, .slice A2 ds.length c2] 38)).drew) (Fr.drew (Fr.refl _ _)) (fun h => h)
      have hb4 := HB2.out.fr hF24 (fun h => h)
      have x0 := hx4.cell 0
      have x1 := hx4.cell 1
      have x2 := hx4.cell 2
      have x3 := hx4.cell 3
      have x4 := hx4.cell 4
      have x5 := hx4.cell 5
      have x6 := hx4.cell 6
      have x7 := hx4.cell 7
      have x8 := hx4.cell 8
      have x9 := hx4.cell 9
      have x10 := hx4.cell 10
      have x11 := hx4.cell 11
      have v0 := hb4.cell 0
      have v1 := hb4.cell 1
      simp only [List.getElem?_toArray, List.getElem?_cons_zero, List.getElem?_cons_succ] at v0 v1 x0 x1 x2 x3 x4 x5 x6 x7 x8 x9 x10 x11
      have HF24 := Lib.hid hF24
      clear hx4 hb4 HX8 hF24 HB2
      generalize (w2.alloc (.cells #[.int .i64 a0, .int .i64 a1, .int .i64 a2, .string a3, .string a4, .int .i64 a5, .slice B lg.length b, .int .i64 a6, .int .i64 a7, .string a8, .bool bn, .slice A2 ds.length c2] 38)).drew = w4 at *
      generalize w2.heap.size = g2 at *
      cases bn with
      | true =>
        have HN := Lib.hid (HSN.out w4 rfl (HM2.out.no HF24.out) (HF2.out.trans (HF24.out.mono fun _ _ h => False.elim h)))
        go_wp2
        go_roundw
        case rel => exact HN.out
        case measure => simp [intOf]; omega
      | false =>
        have HE4 := Lib.hid (HEXC.out w4 HF24.out rfl)
        have HM4 := Lib.hid (HM2.out.no HF24.out)
        have HO4 := Lib.hid ((HOW.out.fr HF2.out (fun j hj e => by have e : j = r.wm := e; exact HLV.out (e ▸ hj))).fr HF24.out (fun _ _ h => h))
        have HOK5 : Hid (∀ w5, ExcM { r with lv := rl } w4 s5 w5 → Own w5 82 9 (.slice Av nd cv) nd XS) := Lib.hid fun w5 h5 => by
          obtain ⟨lv', h1, h2, h3⟩ := h5
          exact HO4.out.fr h2 fun j hj e => HM4.out.apart HO4.out HAP.out j (.inl (Pr.wx_wr e)) hj
        have HF4 : Hid (Fr (At1 r.wm) wr w4) := Lib.hid (HF2.out.trans (HF24.out.mono fun _ _ h => False.elim h))
        clear HEXC HSN HM2 HF2 HF24 HOW HM HLV HM4 HO4
        obtain ⟨⟨d1, d2⟩, ⟨d3, d4⟩, ⟨d5, d6, d7, d8⟩, dg⟩ := d
        unfold ddC at HE4 HSS
        simp only at HE4 HSS
        go_wp2_with (first
          | (go_at_call 55; (with_reducible refine HE4.out.mono ?_); rintro _ w5 ⟨rfl, hx5⟩; have HX5 := Lib.hid hx5; have HO5 := Lib.hid (HOK5.out w5 hx5); clear hx5)
          | (at_builtin; refine wpList_app _ rfl (.tmp 32) (.tmp 38) 45 45 rfl elDd (HO5.out.alloc (.cells #[.int .i64 d1, .int .i64 d2, .int .i64 d3, .int .i64 d4, .int .i64 d5, .int .i64 d6, .int .i64 d7, .int .i64 d8, .bool dg] 82)) rfl (Src.of_new (cs := #[.int .i64 d1, .int .i64 d2, .int .i64 d3, .int .i64 d4, .int .i64 d5, .int .i64 d6, .int .i64 d7, .int .i64 d8, .bool dg]) (t := 82) w5.heap.size (heap_alloc_new w5 _) Tryz.underlying45 rfl (by simp [Value.oneCell'])) rfl (by simp only [maxLen]; omega) (by omega) ?_; intro v7 w7 hown7 hfr7 hnew7))
        have HEND := Lib.hid (HSS.out w4 w5 w7 v7 _ trivial HF4.out HX5.out HO5.out hown7 hfr7 hnew7)
        clear hown7 hfr7 hnew7
        go_roundw
        case rel => exact HEND.out
        case measure => simp [intOf]; omega
    · obtain rfl : k = row.length := by omega
      rw [List.take_length] at hown hm
      obtain ⟨Av, cv, rfl, -, -⟩ := hown.form
      have HOW := Lib.hid hown
      have HM := Lib.hid hm
      have HNE := Lib.hid hnew
      have HFR := Lib.hid hfr
      have HRL := Lib.hid hrl2
      clear hown hm hnew hfr hrl2
      generalize hnd : (s.execsD row).length = nd at *
      go_wp2
      go_ret
      have hws := HF2.out.size
      refine ⟨row, HRO.out, ⟨Av, cv, by rw [hnd]; rfl, by rw [hnd]; exact HOW.out, ?_⟩, { r with lv := rl }, rfl, ⟨HM.out, H0.out.inv.run HRO.out⟩, ?_, fun j hj => ?_⟩
      · rw [hnd]
        rcases HNE.out with e | ⟨j, e, hj⟩
        · exact .inl e
        · exact .inr ⟨j, e, by omega⟩
      · exact (HF2.out.mono (fun _ _ h => False.elim h) : Fr r.wr w w0).trans' HFR.out (fun j hj _ => hj)
      · rcases hj with (hj | hj | hj | hj | hj | hj) | hj
        · exact .inl (.inl (.inl hj))
        · exact .inl (.inl (.inr (.inl hj)))
        · exact .inl (.inl (.inr (.inr (.inl hj))))
        · exact .inl (.inl (.inr (.inr (.inr (.inl hj)))))
        · exact .inl (.inl (.inr (.inr (.inr (.inr (.inl hj))))))
        · rcases HRL.out with h | ⟨b, h, hb⟩
          · exact .inl (.inl (.inr (.inr (.inr (.inr (.inr (h ▸ hj)))))))
          · have hj : rl.ownBlock = some j := hj
            rw [h] at hj
            injection hj with hj
            exact .inr (by omega)
        · exact .inl (.inr hj)
end Go.Proofs.YtcpgamidimfflaaGreat
namespace Go.Proofs.YtcpgamidimfflaaGreat
open Go.RowKit Go.My Go.Maps
set_option linter.unusedSimpArgs false
set_option linter.unusedVariables false
attribute [local go_sem ↓] Go.wp_at_zero Go.wp_at_succ
theorem neq_book (b : Nat) (W : World) : (binOp .eql 75 (.pointer (some ⟨b, 0, none⟩)) (.pointer none)).run Tryz.prog W = .ok (.bool false) W := by simp [go_sem]
set_option maxRecDepth 100000 in
set_option maxHeartbeats 2000000 in
theorem commit_bad (w : World) (p : Nat) (F : Nat → Prop) (i : In2) (e : En) (v : Value) (A : Option Addr) (c : Nat) (hs : EnS w F e v A c) (hd : e.deps.length ≤ 1000000) (hr : rightE i e = false) :
    Calls Tryz.prog 15 #[.pointer (some ⟨p, 0, none⟩), .agg #[.int .i64 i.1, .int .i64 i.2], e.val v (.slice A e.deps.length c)] w fun x w' => x = .returned (.int .i64 1) ∧ Fr No w w' := by
  have HRT : Hid (∀ W, Fr No w W → Calls Tryz.prog 13 #[.agg #[.int .i64 i.1, .int .i64 i.2], e.val v (.slice A e.deps.length c)] W fun x w' => x = .returned (.bool false) ∧ Fr No W w') := Lib.hid fun W hW => hr ▸ right14_any F i e v A c W (hs.no hW) hd
  obtain ⟨vB, vd, rfl, -, -⟩ := hs.legs.form
  clear hs hd hr
  generalize e.o.legs.length = vn at *
  generalize e.deps.length = q at *
  obtain ⟨⟨x0, x1, x2, x3, x4, x5, lg, x7, x8, x9⟩, bn, ds⟩ := e
  obtain ⟨i1, i2⟩ := i
  unfold En.val at *
  simp only at HRT ⊢
  have hb0 := (Blk.new w 30 #[.int .i64 i1, .int .i64 i2]).alloc (.cells #[.int .i64 x0, .int .i64 x1, .int .i64 x2, .string x3, .string x4, .int .i64 x5, .slice vB vn vd, .int .i64 x7, .int .i64 x8, .string x9, .bool bn, .slice A q c] 38)
  have hb1 := Blk.new (w.alloc (.cells #[.int .i64 i1, .int .i64 i2] 30)) 38 #[.int .i64 x0, .int .i64 x1, .int .i64 x2, .string x3, .string x4, .int .i64 x5, .slice vB vn vd, .int .i64 x7, .int .i64 x8, .string x9, .bool bn, .slice A q c]
  rw [World.size_alloc] at hb1
  have p0 := hb0.cell 0
  have p1 := hb0.cell 1
  have e0 := hb1.cell 0
  have e1 := hb1.cell 1
  have e2 := hb1.cell 2
  have e3 := hb1.cell 3
  have e4 := hb1.cell 4
  have e5 := hb1.cell 5
  have e6 := hb1.cell 6
  have e7 := hb1.cell 7
  have e8 := hb1.cell 8
  have e9 := hb1.cell 9
  have e10 := hb1.cell 10
  have e11 := hb1.cell 11
  simp only [List.getElem?_toArray, List.getElem?_cons_zero, List.getElem?_cons_succ] at p0 p1 e0 e1 e2 e3 e4 e5 e6 e7 e8 e9 e10 e11
  have HFA : Hid (Fr No w ((w.alloc (.cells #[.int .i64 i1, .int .i64 i2] 30)).alloc (.cells #[.int .i64 x0, .int .i64 x1, .int .i64 x2, .string x3, .string x4, .int .i64 x5, .slice vB vn vd, .int .i64 x7, .int .i64 x8, .string x9, .bool bn, .slice A q c] 38))) := Lib.hid (((Fr.refl _ _).alloc _).alloc _)
  clear hb0 hb1
  go_enter Tryz.func15, Tryz.ntmps15
  go_wp2_with (go_at_call 13; (with_reducible refine (HRT.out _ HFA.out).mono ?_); rintro _ w2 ⟨rfl, hf2⟩; have HF2 := Lib.hid (HFA.out.trans hf2); clear hf2)
  go_ret
  exact ⟨rfl, HF2.out⟩
theorem RnM.lookOk {w : World} {r : Pr} {s : Ru} (h : RnM w r s) {i : In2} (hi : IdOk i) : ∃ (e : En) (B1 B2 : Option Addr) (n1 b1 n2 c2 : Nat), (∀ e', s.get i = some e' → e = e' ∧ n1 = e.o.legs.length ∧ n2 = e.deps.length ∧ EnS w r.E e (.slice B1 n1 b1) B2 c2) ∧ ∀ W, Fr No w W →
    (Instr.lookup 88 (.map (some r.km)) (.agg #[.int .i64 i.1, .int .i64 i.2]) true).run Tryz.prog W = .ok (.tuple #[e.val (.slice B1 n1 b1) (.slice B2 n2 c2), .bool (s.get i).isSome]) W := by
  obtain ⟨L, f, h1, h2⟩ := h.kn
  have h3 := h2 i hi
  cases hg : s.get i with
  | none =>
    rw [hg] at h3
    have h3 : f i = none := h3
    refine ⟨⟨od0, false, []⟩, none, none, 0, 0, 0, 0, fun e' h => (by cases h), fun W hW => ?_⟩
    have := (h1.fr hW (fun h => h)).look_ok keyIn Tryz.underlying88 (zeroEn W) i hi
    rw [h3] at this
    exact this
  | some e =>
    rw [hg] at h3
    obtain ⟨v, A, c, h3, h5⟩ := h3
    obtain ⟨B, b, rfl, -, -⟩ := h5.legs.form
    refine ⟨e, B, A, _, b, _, c, fun e' h => (by injection h with h; subst h; exact ⟨rfl, rfl, rfl, h5⟩), fun W hW => ?_⟩
    have := (h1.fr hW (fun h => h)).look_ok keyIn Tryz.underlying88 (zeroEn W) i hi
    rw [h3] at this
    exact this
set_option maxRecDepth 100000 in
set_option maxHeartbeats 4000000 in
theorem commit_known (w : World) (r : Pr) (s : Ru) (F : Nat → Prop) (i : In2) (e : En) (v : Value) (A : Option Addr) (c : Nat) (h : RnS w r s) (hs : EnS w F e v A c) (hd : e.deps.length ≤ 1000000) (hr : rightE i e = true) (e2 : En) (hg2 : s.get i = some e2) :
    Calls Tryz.prog 15 #[.pointer (some ⟨r.p, 0, none⟩), .agg #[.int .i64 i.1, .int .i64 i.2], e.val v (.slice A e.deps.length c)] w fun x w' => x = .returned (.int .i64 (if sameE e2 e = true then 0 else 7)) ∧ Fr No w w' := by
  have HRT : Hid (∀ W, Fr No w W → Calls Tryz.prog 13 #[.agg #[.int .i64 i.1, .int .i64 i.2], e.val v (.slice A e.deps.length c)] W fun x w' => x = .returned (.bool true) ∧ Fr No W w') := Lib.hid fun W hW => hr ▸ right14_any F i e v A c W (hs.no hW) hd
  obtain ⟨vB, vd, rfl, -, -⟩ := hs.legs.form
  have hik := rightI_ok (rightE_i hr)
  obtain ⟨e', B1, B2, n1, b1, n2, c2, hlk, hlook⟩ := h.toRnM.lookOk hik
  have hplt := h.blk.lt
  have HH := Lib.hid h
  obtain ⟨rfl, rfl, rfl, hen⟩ := hlk e2 hg2
  rw [hg2] at hlook
  simp only [Option.isSome_some] at hlook
  have HCALL : Hid (∀ W, Fr No w W → Calls Tryz.prog 37 #[e'.val (.slice B1 e'.o.legs.length b1) (.slice B2 e'.deps.length c2), e.val (.slice vB e.o.legs.length vd) (.slice A e.deps.length c)] W fun x w' => x = .returned (.bool (sameE e' e)) ∧ Fr No W w') := Lib.hid fun W hW => same14_any r.E F e' e _ _ B2 A c2 c W (hen.no hW) (hs.no hW) (by
    have h1 := (rightE_d (h.inv.right _ (getS_some hg2)))
    have h2 : e'.deps.length ≤ 80000 := right_few h1.1.nodup (fun d hd => (h1.2 d hd).1)
    omega)
  generalize hsm : sameE e' e = sm at *
  clear h hs hd hr hg2 hlk hik hen hsm
  generalize e'.o.legs.length = n1 at *
  generalize e'.deps.length = n2 at *
  generalize e.o.legs.length = vn at *
  generalize e.deps.length = q at *
  obtain ⟨⟨x0, x1, x2, x3, x4, x5, lg, x7, x8, x9⟩, bn, ds⟩ := e
  obtain ⟨⟨a0, a1, a2, a3, a4, a5, alg, a6, a7, a8⟩, b0, ads⟩ := e'
  obtain ⟨i1, i2⟩ := i
  unfold En.val at *
  simp only at HRT HCALL hlook ⊢
  have hb0 := (Blk.new w 30 #[.int .i64 i1, .int .i64 i2]).alloc (.cells #[.int .i64 x0, .int .i64 x1, .int .i64 x2, .string x3, .string x4, .int .i64 x5, .slice vB vn vd, .int .i64 x7, .int .i64 x8, .string x9, .bool bn, .slice A q c] 38)
  have hb1 := Blk.new (w.alloc (.cells #[.int .i64 i1, .int .i64 i2] 30)) 38 #[.int .i64 x0, .int .i64 x1, .int .i64 x2, .string x3, .string x4, .int .i64 x5, .slice vB vn vd, .int .i64 x7, .int .i64 x8, .string x9, .bool bn, .slice A q c]
  rw [World.size_alloc] at hb1
  have p0 := hb0.cell 0
  have p1 := hb0.cell 1
  have e0 := hb1.cell 0
  have e1 := hb1.cell 1
  have e2 := hb1.cell 2
  have e3 := hb1.cell 3
  have e4 := hb1.cell 4
  have e5 := hb1.cell 5
  have e6 := hb1.cell 6
  have e7 := hb1.cell 7
  have e8 := hb1.cell 8
  have e9 := hb1.cell 9
  have e10 := hb1.cell 10
  have e11 := hb1.cell 11
  simp only [List.getElem?_toArray, List.getElem?_cons_zero, List.getElem?_cons_succ] at p0 p1 e0 e1 e2 e3 e4 e5 e6 e7 e8 e9 e10 e11
  have HFA : Hid (Fr No w ((w.alloc (.cells #[.int .i64 i1, .int .i64 i2] 30)).alloc (.cells #[.int .i64 x0, .int .i64 x1, .int .i64 x2, .string x3, .string x4, .int .i64 x5, .slice vB vn vd, .int .i64 x7, .int .i64 x8, .string x9, .bool bn, .slice A q c] 38))) := Lib.hid (((Fr.refl _ _).alloc _).alloc _)
  have HB0 := Lib.hid hb0
  have HB1 := Lib.hid hb1
  clear hb0 hb1
  have hnb := fun W => neq_book r.q.p W
  go_enter Tryz.func15, Tryz.ntmps15
  go_upto_region 3 with (go_at_call 13; (with_reducible refine (HRT.out _ HFA.out).mono ?_); rintro _ w3 ⟨rfl, hf3⟩; have HF23 := Lib.hid hf3; clear hf3)
  have hb3 := HB0.out.fr HF23.out (fun h => h)
  have hb4 := HB1.out.fr HF23.out (fun h => h)
  have HF3 := Lib.hid (HFA.out.trans HF23.out)
  have k4 := (HH.out.blk.fr HF3.out (fun h => h)).cell 4
  simp only [List.getElem?_toArray, List.getElem?_cons_zero, List.getElem?_cons_succ] at k4
  clear p0 p1 e0 e1 e2 e3 e4 e5 e6 e7 e8 e9 e10 e11 HB0 HB1 HF23 HFA
  generalize hg : w.heap.size = g at *
  have HB3 := Lib.hid hb3
  have HB4 := Lib.hid hb4
  have HG := Lib.hid hg
  clear hb3 hb4 hg
  have HX5 : Hid (∀ W, Fr No w3 W → Fr No w3 W ∧ W.cell? ⟨r.p, 0, none⟩ = some (.map (some r.km)) ∧ W.cell? ⟨g, 0, none⟩ = some (.int .i64 i1) ∧ W.cell? ⟨g, 1, none⟩ = some (.int .i64 i2) ∧ (Instr.lookup 88 (.map (some r.km)) (.agg #[.int .i64 i1, .int .i64 i2]) true).run Tryz.prog W = .ok (.tuple #[.agg #[.int .i64 a0, .int .i64 a1, .int .i64 a2, .string a3, .string a4, .int .i64 a5, .slice B1 n1 b1, .int .i64 a6, .int .i64 a7, .string a8, .bool b0, .slice B2 n2 c2], .bool true]) W) := Lib.hid fun W hW => by
    have k1 := HH.out.blk.fr (HF3.out.trans hW) (fun h => h)
    have k2 := HB3.out.fr hW (fun h => h)
    exact ⟨hW, k1.cell 0, k2.cell 0, k2.cell 1, hlook W (HF3.out.trans hW)⟩
  clear hlook
  go_upto_region 5 with (fail)
  go_cut [7, 8] (fun s7 s8 wx => (s7 = .pointer (some ⟨w3.heap.size, 0, none⟩) ∧ s8 = .bool true) ∧ wx = (w3.alloc (.cells #[.int .i64 a0, .int .i64 a1, .int .i64 a2, .string a3, .string a4, .int .i64 a5, .slice B1 n1 b1, .int .i64 a6, .int .i64 a7, .string a8, .bool b0, .slice B2 n2 c2] 38)).drew)
  case first =>
    have hk0 : Fr No w3 w3.drew := (Fr.refl _ w3).drew
    have hz := (Blk.new w3 38 #[.int .i64 0, .int .i64 0, .int .i64 0, .string ⟨#[]⟩, .string ⟨#[]⟩, .int .i64 0, .slice none 0 0, .int .i64 0, .int .i64 0, .string ⟨#[]⟩, .bool false, .slice none 0 0]).fr (S := No) (w' := (w3.alloc (.cells #[.int .i64 0, .int .i64 0, .int .i64 0, .string ⟨#[]⟩, .string ⟨#[]⟩, .int .i64 0, .slice none 0 0, .int .i64 0, .int .i64 0, .string ⟨#[]⟩, .bool false, .slice none 0 0] 38)).drew) (Fr.drew (Fr.refl _ _)) (fun h => h)
    have z0 := hz.cell 0
    have y0 := hz.frozen 0
    have z1 := hz.cell 1
    have y1 := hz.frozen 1
    have z2 := hz.cell 2
    have y2 := hz.frozen 2
    have z3 := hz.cell 3
    have y3 := hz.frozen 3
    have z4 := hz.cell 4
    have y4 := hz.frozen 4
    have z5 := hz.cell 5
    have y5 := hz.frozen 5
    have z6 := hz.cell 6
    have y6 := hz.frozen 6
    have z7 := hz.cell 7
    have y7 := hz.frozen 7
    have z8 := hz.cell 8
    have y8 := hz.frozen 8
    have z9 := hz.cell 9
    have y9 := hz.frozen 9
    have z10 := hz.cell 10
    have y10 := hz.frozen 10
    have z11 := hz.cell 11
    have y11 := hz.frozen 11
    simp only [List.getElem?_toArray, List.getElem?_cons_zero, List.getElem?_cons_succ] at z0 z1 z2 z3 z4 z5 z6 z7 z8 z9 z10 z11
    clear hz
    go_region_held3 (fun W => Fr No w3 W ∧ W.cell? ⟨r.p, 0, none⟩ = some (.map (some r.km)) ∧ W.cell? ⟨g, 0, none⟩ = some (.int .i64 i1) ∧ W.cell? ⟨g, 1, none⟩ = some (.int .i64 i2) ∧ (Instr.lookup 88 (.map (some r.km)) (.agg #[.int .i64 i1, .int .i64 i2]) true).run Tryz.prog W = .ok (.tuple #[.agg #[.int .i64 a0, .int .i64 a1, .int .i64 a2, .string a3, .string a4, .int .i64 a5, .slice B1 n1 b1, .int .i64 a6, .int .i64 a7, .string a8, .bool b0, .slice B2 n2 c2], .bool true]) W)
      (first
        | (with_reducible refine HX5.out _ ?_; with_reducible assumption)
        | (with_reducible refine HX5.out _ ?_; exact Fr.drew ((Fr.refl _ _).alloc _))
        | (with_reducible refine HX5.out _ ?_; exact fr_new12 (Fr.drew ((Fr.refl _ _).alloc _)) _ (Nat.le_refl _) _ _ _ _ _ _ _ _ _ _ _ _))
      (fail)
    all_goals
      go_wp2
      go_meet
      exact ⟨⟨rfl, rfl⟩, rfl⟩
  case rest =>
  obtain ⟨⟨rfl, rfl⟩, rfl⟩ := hcut
  have hF34 : Fr No w3 (w3.alloc (.cells #[.int .i64 a0, .int .i64 a1, .int .i64 a2, .string a3, .string a4, .int .i64 a5, .slice B1 n1 b1, .int .i64 a6, .int .i64 a7, .string a8, .bool b0, .slice B2 n2 c2] 38)).drew := Fr.drew ((Fr.refl _ _).alloc _)
  have hx4 := (Blk.new w3 38 #[.int .i64 a0, .int .i64 a1, .int .i64 a2, .string a3, .string a4, .int .i64 a5, .slice B1 n1 b1, .int .i64 a6, .int .i64 a7, .string a8, .bool b0, .slice B2 n2 c2]).fr (S := No) (w' := (w3.alloc (.cells #[.int .i64 a0, .int .i64 a1, .int .i64 a2, .string a3, .string a4, .int .i64 a5, .slice B1 n1 b1, .int .i64 a6, .int .i64 a7, .string a8, .bool b0, .slice B2 n2 c2] 38)).drew) (Fr.drew (Fr.refl _ _)) (fun h => h)
  have hb5 := HB3.out.fr hF34 (fun h => h)
  have hb6 := HB4.out.fr hF34 (fun h => h)
  have HF4 := Lib.hid (HF3.out.trans hF34)
  clear HX5 hF34 HB3 HB4 HF3 k4
  generalize (w3.alloc (.cells #[.int .i64 a0, .int .i64 a1, .int .i64 a2, .string a3, .string a4, .int .i64 a5, .slice B1 n1 b1, .int .i64 a6, .int .i64 a7, .string a8, .bool b0, .slice B2 n2 c2] 38)).drew = w4 at *
  generalize w3.heap.size = g3 at *
  have u0 := hx4.cell 0
  have u1 := hx4.cell 1
  have u2 := hx4.cell 2
  have u3 := hx4.cell 3
  have u4 := hx4.cell 4
  have u5 := hx4.cell 5
  have u6 := hx4.cell 6
  have u7 := hx4.cell 7
  have u8 := hx4.cell 8
  have u9 := hx4.cell 9
  have u10 := hx4.cell 10
  have u11 := hx4.cell 11
  have e0 := hb6.cell 0
  have e1 := hb6.cell 1
  have e2 := hb6.cell 2
  have e3 := hb6.cell 3
  have e4 := hb6.cell 4
  have e5 := hb6.cell 5
  have e6 := hb6.cell 6
  have e7 := hb6.cell 7
  have e8 := hb6.cell 8
  have e9 := hb6.cell 9
  have e10 := hb6.cell 10
  have e11 := hb6.cell 11
  simp only [List.getElem?_toArray, List.getElem?_cons_zero, List.getElem?_cons_succ] at u0 e0 u1 e1 u2 e2 u3 e3 u4 e4 u5 e5 u6 e6 u7 e7 u8 e8 u9 e9 u10 e10 u11 e11
  clear hx4 hb5 hb6
  cases sm with
  | true =>
    go_wp2_with (go_at_call 37; (with_reducible refine (HCALL.out _ HF4.out).mono ?_); rintro _ w6 ⟨rfl, hf6⟩; have HF6 := Lib.hid (HF4.out.trans hf6); clear hf6)
    go_ret
    exact ⟨rfl, HF6.out⟩
  | false =>
    go_wp2_with (go_at_call 37; (with_reducible refine (HCALL.out _ HF4.out).mono ?_); rintro _ w6 ⟨rfl, hf6⟩; have HF6 := Lib.hid (HF4.out.trans hf6); clear hf6)
    go_ret
    exact ⟨rfl, HF6.out⟩
end Go.Proofs.YtcpgamidimfflaaGreat
