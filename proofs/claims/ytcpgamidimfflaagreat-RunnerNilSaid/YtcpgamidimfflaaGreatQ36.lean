/- Commit, of what is new. Commit, of whatever. What is missing; when all that is open has been executed (lists). Missing. A book's accounts have names that may be. What who asks is told. In lists. -/
import Derived.Test.YtcpgamidimfflaaGreatQ35
import Derived.Test.YtcpgamidimfflaaGreatQ18
import Derived.Test.YtcpgamidimfflaaGreatQ32
import Derived.Test.YtcpgamidimfflaaGreatQ16
namespace Go.Proofs.YtcpgamidimfflaaGreat
open Go.RowKit Go.My Go.Maps
set_option linter.unusedSimpArgs false
set_option linter.unusedVariables false
attribute [local go_sem ↓] Go.wp_at_zero Go.wp_at_succ
theorem Ru.com_new {s : Ru} {i : In2} {e : En} (hr : rightE i e = true) (hg : s.get i = none) : s.com i e = { s with S := insS s.S i e, wt := fun j => decide (j = i) || s.wt j } ∧ s.comE i e = 0 := by
  unfold Ru.com Ru.comE
  rw [if_pos hr, if_pos hr, hg]
  exact ⟨rfl, rfl⟩
theorem WtT.put {w : World} {m : Nat} {wt : In2 → Bool} (h : WtT w m wt) (hl : ∀ L : List Idk, L.Nodup → (∀ k ∈ L, wt k = true) → L.length < maxLen) (i : In2) (hi : IdOk i) : ∃ w', (Instr.mapUpdate 89 (.map (some m)) (.agg #[.int .i64 i.1, .int .i64 i.2]) (.agg #[])).run Tryz.prog w = .ok () w' ∧ WtT w' m (fun j => decide (j = i) || wt j) ∧ Fr (At1 m) w w' := by
  obtain ⟨L, h⟩ := h
  obtain ⟨w', h1, h2, h3⟩ := h.put keyIn Tryz.underlying89 (hl L h.nd fun k hk => by
    have := (h.mem k).1 hk
    unfold wtF at this
    by_cases e : wt k = true
    · exact e
    · rw [if_neg e] at this; cases this) i hi (.agg #[])
  rw [wtF_put] at h2
  exact ⟨w', h1, ⟨_, h2⟩, h3⟩
theorem com_new_end {w w4 w5 w6 w7 : World} {r : Pr} {s : Ru} {i : In2} {e : En} {L : List Idk} {f : Idk → Option Value} {B A2 : Option Addr} {b c2 : Nat} (h : RnS w r s) (hr : rightE i e = true) (hg : s.get i = none) (ho : e.o.ok)
    (h2 : ∀ j, IdOk j → EnAt w r.E (s.get j) (f j)) (h04 : Fr No w w4) (hf5 : Fr No w4 w5) (hen : EnS w5 (New w4.heap.size w5 none) e (.slice B e.o.legs.length b) A2 c2)
    (ht6 : TabI Tryz.prog 30 w6 r.km (addK L i) (updI f i (e.val (.slice B e.o.legs.length b) (.slice A2 e.deps.length c2)))) (hf6 : Fr (At1 r.km) w5 w6) (hw7 : WtT w7 r.wm fun j => decide (j = i) || s.wt j) (hf7 : Fr (At1 r.wm) w6 w7) : ChgRn r w (s.com i e) w7 := by
  rw [(Ru.com_new hr hg).1]
  have s04 := h04.size
  have s45 := hf5.size
  have s56 := hf6.size
  have s67 := hf7.size
  have h57 : Fr (fun k => k = r.km ∨ k = r.wm) w5 w7 := (hf6.mono fun _ _ h => .inl h).trans (hf7.mono fun _ _ h => .inr h)
  have h05 := h04.trans hf5
  have hT : Fr (fun k => k = r.km ∨ k = r.wm) w w7 := (h05.mono fun _ _ h => False.elim h).trans h57
  have hET : ∀ k, r.E k → k < w.heap.size → ¬ (k = r.km ∨ k = r.wm) := fun k hk _ e => by
    rcases e with e | e
    · exact h.ap k hk (.inr (.inl e))
    · exact h.ap k hk (.inr (.inr (.inl e)))
  have hkm := h.kn.lt
  have hwm := h.wt.lt
  have hi : i ∉ s.S.map Prod.fst := getS_none.1 hg
  refine ⟨{ r with E := fun k => r.E k ∨ New w4.heap.size w5 none k }, rfl, ⟨⟨?_, ⟨_, _, ht6.fr hf7 (fun e => h.ne.1 e), fun j hj => ?_⟩, hw7, ?_, ?_, ?_, fun k hk => ?_, fun k hk => ?_, h.ne, ⟨h.di.rep, h.di.bk, h.di.ids, h.di.dok⟩⟩, ?_⟩, hT.mono fun k _ hk => ?_, fun k hk => ?_⟩
  · exact h.blk.fr hT (fun e => by rcases e with e | e; exact h.nek.1 e.symm; exact h.new_.1 e.symm)
  · have key := KnT.put (w := w7) (E := fun k => r.E k ∨ New w4.heap.size w5 none k) (get := s.get) (f := f) (i := i) (e := e) (fun j hj => (h2 j hj).frS hT hET (fun _ h => .inl h)) (hen.frS h57 (fun k hk _ e => by
      have := hk.1
      rcases e with e | e <;> omega) (fun _ h => .inr h)) j hj
    show EnAt w7 _ (getS (insS s.S i e) j) _
    rw [getS_ins h.inv.rise hi]
    exact key
  · exact h.ls.fr hT (fun k hk e => by
      rcases e with e | e
      · exact h.nek.2 k hk e.symm
      · exact h.new_.2 k hk e.symm) hET (fun _ h => .inl h)
  · exact h.td.fr hT (fun e => by rcases e with e | e; exact h.ne.2.1 e.symm; exact h.ne.2.2.1 e.symm)
  · exact h.bk.fr hT fun k hk e => by
      rcases e with e | e
      · exact (h.ne.2.2.2 k hk).1 e
      · exact (h.ne.2.2.2 k hk).2.1 e
  · rcases hk with hk | hk
    · exact Nat.lt_of_lt_of_le (h.lt k hk) hT.size
    · have := hk.2.1; omega
  · rcases hk with hk | hk
    · exact h.ap k hk
    · intro e
      have h9 := h.alt k (.inl e)
      have := hk.1
      omega
  · have := h.inv.com (i := i) (e := e) ho
    rw [(Ru.com_new hr hg).1] at this
    exact this
  · rcases hk with hk | hk
    · exact .inr (.inl hk)
    · exact .inr (.inr (.inl hk))
  · rcases hk with hk | hk | hk
    · exact .inl (.inl hk)
    · exact .inl (.inr hk)
    · have := hk.1
      exact .inr (by omega)
set_option maxRecDepth 100000 in
set_option maxHeartbeats 1000000 in
theorem commit_new (w : World) (r : Pr) (s : Ru) (F : Nat → Prop) (i : In2) (e : En) (v : Value) (A : Option Addr) (c : Nat) (h : RnS w r s) (hs : EnS w F e v A c) (hd : e.deps.length ≤ 1000000) (hr : rightE i e = true) (hg2 : s.get i = none) :
    Calls Tryz.prog 15 #[.pointer (some ⟨r.p, 0, none⟩), .agg #[.int .i64 i.1, .int .i64 i.2], e.val v (.slice A e.deps.length c)] w fun x w' => x = .returned (.int .i64 0) ∧ ChgRn r w (s.com i e) w' := by
  have HRT : Hid (∀ W, Fr No w W → Calls Tryz.prog 13 #[.agg #[.int .i64 i.1, .int .i64 i.2], e.val v (.slice A e.deps.length c)] W fun x w' => x = .returned (.bool true) ∧ Fr No W w') := Lib.hid fun W hW => hr ▸ right14_any F i e v A c W (hs.no hW) hd
  obtain ⟨vB, vd, rfl, -, -⟩ := hs.legs.form
  have hik := rightI_ok (rightE_i hr)
  obtain ⟨e', B1, B2, n1, b1, n2, c2, hlk, hlook⟩ := h.toRnM.lookOk hik
  have hplt := h.blk.lt
  have HH := Lib.hid h
  rw [hg2] at hlook
  simp only [Option.isSome_none] at hlook
  have hlg : e.o.legs.length ≤ 100000 := by
    cases hn : e.none with
    | false => have := right_legs6 (rightE_o hr hn); omega
    | true =>
      have h1 := hr
      unfold rightE at h1
      rw [hn, Bool.and_eq_true, Bool.and_eq_true] at h1
      have h2 : eqO e.o od0 = true := h1.2.1
      rw [eqO_iff] at h2
      rw [h2]
      decide
  have HCALL : Hid (∀ W, Fr No w W → Calls Tryz.prog 50 #[e.val (.slice vB e.o.legs.length vd) (.slice A e.deps.length c)] W (EntRet W e)) := Lib.hid fun W hW => copyE_any F e _ A c W (hs.no hW) hlg hd
  unfold EntRet at HCALL
  obtain ⟨tL, tf, ht1, ht2⟩ := h.kn
  have hkl : tL.length ≤ 80000 := by rw [len_of ht1.nd h.inv.rise.nodup (keys_mem h.inv ht1 ht2)]; exact h.inv.few
  have HPUT : Hid (∀ w5, Fr No w w5 → ∀ v5, ∃ w6, (Instr.mapUpdate 88 (.map (some r.km)) (.agg #[.int .i64 i.1, .int .i64 i.2]) v5).run Tryz.prog w5 = .ok () w6 ∧ TabI Tryz.prog 30 w6 r.km (addK tL i) (updI tf i v5) ∧ Fr (At1 r.km) w5 w6) := Lib.hid fun w5 h5 v5 => (ht1.fr h5 (fun h => h)).put keyIn Tryz.underlying88 (by simp only [maxLen]; omega) i hik v5
  have HWP : Hid (∀ w6, WtT w6 r.wm s.wt → ∃ w7, (Instr.mapUpdate 89 (.map (some r.wm)) (.agg #[.int .i64 i.1, .int .i64 i.2]) (.agg #[])).run Tryz.prog w6 = .ok () w7 ∧ WtT w7 r.wm (fun j => decide (j = i) || s.wt j) ∧ Fr (At1 r.wm) w6 w7) := Lib.hid fun w6 h6 => h6.put (fun L hL hk => by
    have h1 : L.length ≤ 80000 := right_few hL fun k hk2 => h.inv.ri k (h.inv.sub k (hk k hk2))
    simp only [maxLen]; omega) i hik
  have HEND : Hid (∀ (w4 w5 w6 w7 : World) (B A2 : Option Addr) (b c2 : Nat), Fr No w w4 → Fr No w4 w5 → EnS w5 (New w4.heap.size w5 none) e (.slice B e.o.legs.length b) A2 c2 → TabI Tryz.prog 30 w6 r.km (addK tL i) (updI tf i (e.val (.slice B e.o.legs.length b) (.slice A2 e.deps.length c2))) → Fr (At1 r.km) w5 w6 → WtT w7 r.wm (fun j => decide (j = i) || s.wt j) → Fr (At1 r.wm) w6 w7 → ChgRn r w (s.com i e) w7) := Lib.hid fun w4 w5 w6 w7 B A2 b c2 k1 k2 k3 k4 k5 k6 k7 => com_new_end h hr hg2 hs.ok ht2 k1 k2 k3 k4 k5 k6 k7
  clear h hs hd hr hg2 hlk hlg ht1 ht2 hkl
  generalize hcm : s.com i e = s2 at *
  clear hcm
  generalize e.o.legs.length = vn at *
  generalize e.deps.length = q at *
  obtain ⟨⟨x0, x1, x2, x3, x4, x5, lg, x7, x8, x9⟩, bn, ds⟩ := e
  obtain ⟨⟨a0, a1, a2, a3, a4, a5, alg, a6, a7, a8⟩, b0, ads⟩ := e'
  obtain ⟨i1, i2⟩ := i
  unfold En.val at *
  simp only at HRT HCALL hlook ⊢
  have hb0 := (Blk.new w 30 #[.int .i64 i1, .int .i64 i2]).alloc (.cells #[.int .i64 x0, .int .i64 x1, .int .i64 x2, .string x3, .string x4, .int .i64 x5, .slice vB vn vd, .int .i64 x7, .int .i64 x8, .string x9, .bool bn, .slice A q c] 38)
  have hb1 := Blk.new (w.alloc (.cells #[.int .i64 i1, .int .i64 i2] 30)) 38 #[.int .i64 x0, .int .i64 x1, .int .i64 x2, .string x3, .string x4, .int .i64 x5, .slice vB vn vd, .int .i64 x7, .int .i64 x8, .string x9, .bool bn, .slice A q c]
  rw [World.size_alloc] at hb1
  have p0 := hb0.cell 0
  have p1 := hb0.cell 1
  have e0 := hb1.cell 0
  have e1 := hb1.cell 1
  have e2 := hb1.cell 2
  have e3 := hb1.cell 3
  have e4 := hb1.cell 4
  have e5 := hb1.cell 5
  have e6 := hb1.cell 6
  have e7 := hb1.cell 7
  have e8 := hb1.cell 8
  have e9 := hb1.cell 9
  have e10 := hb1.cell 10
  have e11 := hb1.cell 11
  simp only [List.getElem?_toArray, List.getElem?_cons_zero, List.getElem?_cons_succ] at p0 p1 e0 e1 e2 e3 e4 e5 e6 e7 e8 e9 e10 e11
  have HFA : Hid (Fr No w ((w.alloc (.cells #[.int .i64 i1, .int .i64 i2] 30)).alloc (.cells #[.int .i64 x0, .int .i64 x1, .int .i64 x2, .string x3, .string x4, .int .i64 x5, .slice vB vn vd, .int .i64 x7, .int .i64 x8, .string x9, .bool bn, .slice A q c] 38))) := Lib.hid (((Fr.refl _ _).alloc _).alloc _)
  have HB0 := Lib.hid hb0
  have HB1 := Lib.hid hb1
  clear hb0 hb1
  have hnb := fun W => neq_book r.q.p W
  go_enter Tryz.func15, Tryz.ntmps15
  go_upto_region 3 with (go_at_call 13; (with_reducible refine (HRT.out _ HFA.out).mono ?_); rintro _ w3 ⟨rfl, hf3⟩; have HF23 := Lib.hid hf3; clear hf3)
  have hb3 := HB0.out.fr HF23.out (fun h => h)
  have hb4 := HB1.out.fr HF23.out (fun h => h)
  have HF3 := Lib.hid (HFA.out.trans HF23.out)
  have k4 := (HH.out.blk.fr HF3.out (fun h => h)).cell 4
  simp only [List.getElem?_toArray, List.getElem?_cons_zero, List.getElem?_cons_succ] at k4
  clear p0 p1 e0 e1 e2 e3 e4 e5 e6 e7 e8 e9 e10 e11 HB0 HB1 HF23 HFA
  generalize hg : w.heap.size = g at *
  have HB3 := Lib.hid hb3
  have HB4 := Lib.hid hb4
  have HG := Lib.hid hg
  clear hb3 hb4 hg
  have HX5 : Hid (∀ W, Fr No w3 W → Fr No w3 W ∧ W.cell? ⟨r.p, 0, none⟩ = some (.map (some r.km)) ∧ W.cell? ⟨g, 0, none⟩ = some (.int .i64 i1) ∧ W.cell? ⟨g, 1, none⟩ = some (.int .i64 i2) ∧ (Instr.lookup 88 (.map (some r.km)) (.agg #[.int .i64 i1, .int .i64 i2]) true).run Tryz.prog W = .ok (.tuple #[.agg #[.int .i64 a0, .int .i64 a1, .int .i64 a2, .string a3, .string a4, .int .i64 a5, .slice B1 n1 b1, .int .i64 a6, .int .i64 a7, .string a8, .bool b0, .slice B2 n2 c2], .bool false]) W) := Lib.hid fun W hW => by
    have k1 := HH.out.blk.fr (HF3.out.trans hW) (fun h => h)
    have k2 := HB3.out.fr hW (fun h => h)
    exact ⟨hW, k1.cell 0, k2.cell 0, k2.cell 1, hlook W (HF3.out.trans hW)⟩
  clear hlook
  go_upto_region 5 with (fail)
  go_cut [7, 8] (fun s7 s8 wx => (s7 = .pointer (some ⟨w3.heap.size, 0, none⟩) ∧ s8 = .bool false) ∧ wx = (w3.alloc (.cells #[.int .i64 a0, .int .i64 a1, .int .i64 a2, .string a3, .string a4, .int .i64 a5, .slice B1 n1 b1, .int .i64 a6, .int .i64 a7, .string a8, .bool b0, .slice B2 n2 c2] 38)).drew)
  case first =>
    have hk0 : Fr No w3 w3.drew := (Fr.refl _ w3).drew
    have hz := (Blk.new w3 38 #[.int .i64 0, .int .i64 0, .int .i64 0, .string ⟨#[]⟩, .string ⟨#[]⟩, .int .i64 0, .slice none 0 0, .int .i64 0, .int .i64 0, .string ⟨#[]⟩, .bool false, .slice none 0 0]).fr (S := No) (w' := (w3.alloc (.cells #[.int .i64 0, .int .i64 0, .int .i64 0, .string ⟨#[]⟩, .string ⟨#[]⟩, .int .i64 0, .slice none 0 0, .int .i64 0, .int .i64 0, .string ⟨#[]⟩, .bool false, .slice none 0 0] 38)).drew) (Fr.drew (Fr.refl _ _)) (fun h => h)
    have z0 := hz.cell 0
    have y0 := hz.frozen 0
    have z1 := hz.cell 1
    have y1 := hz.frozen 1
    have z2 := hz.cell 2
    have y2 := hz.frozen 2
    have z3 := hz.cell 3
    have y3 := hz.frozen 3
    have z4 := hz.cell 4
    have y4 := hz.frozen 4
    have z5 := hz.cell 5
    have y5 := hz.frozen 5
    have z6 := hz.cell 6
    have y6 := hz.frozen 6
    have z7 := hz.cell 7
    have y7 := hz.frozen 7
    have z8 := hz.cell 8
    have y8 := hz.frozen 8
    have z9 := hz.cell 9
    have y9 := hz.frozen 9
    have z10 := hz.cell 10
    have y10 := hz.frozen 10
    have z11 := hz.cell 11
    have y11 := hz.frozen 11
    simp only [List.getElem?_toArray, List.getElem?_cons_zero, List.getElem?_cons_succ] at z0 z1 z2 z3 z4 z5 z6 z7 z8 z9 z10 z11
    clear hz
    go_region_held3 (fun W => Fr No w3 W ∧ W.cell? ⟨r.p, 0, none⟩ = some (.map (some r.km)) ∧ W.cell? ⟨g, 0, none⟩ = some (.int .i64 i1) ∧ W.cell? ⟨g, 1, none⟩ = some (.int .i64 i2) ∧ (Instr.lookup 88 (.map (some r.km)) (.agg #[.int .i64 i1, .int .i64 i2]) true).run Tryz.prog W = .ok (.tuple #[.agg #[.int .i64 a0, .int .i64 a1, .int .i64 a2, .string a3, .string a4, .int .i64 a5, .slice B1 n1 b1, .int .i64 a6, .int .i64 a7, .string a8, .bool b0, .slice B2 n2 c2], .bool false]) W)
      (first
        | (with_reducible refine HX5.out _ ?_; with_reducible assumption)
        | (with_reducible refine HX5.out _ ?_; exact Fr.drew ((Fr.refl _ _).alloc _))
        | (with_reducible refine HX5.out _ ?_; exact fr_new12 (Fr.drew ((Fr.refl _ _).alloc _)) _ (Nat.le_refl _) _ _ _ _ _ _ _ _ _ _ _ _))
      (fail)
    all_goals
      go_wp2
      go_meet
      exact ⟨⟨rfl, rfl⟩, rfl⟩
  case rest =>
  obtain ⟨⟨rfl, rfl⟩, rfl⟩ := hcut
  have hF34 : Fr No w3 (w3.alloc (.cells #[.int .i64 a0, .int .i64 a1, .int .i64 a2, .string a3, .string a4, .int .i64 a5, .slice B1 n1 b1, .int .i64 a6, .int .i64 a7, .string a8, .bool b0, .slice B2 n2 c2] 38)).drew := Fr.drew ((Fr.refl _ _).alloc _)
  have hx4 := (Blk.new w3 38 #[.int .i64 a0, .int .i64 a1, .int .i64 a2, .string a3, .string a4, .int .i64 a5, .slice B1 n1 b1, .int .i64 a6, .int .i64 a7, .string a8, .bool b0, .slice B2 n2 c2]).fr (S := No) (w' := (w3.alloc (.cells #[.int .i64 a0, .int .i64 a1, .int .i64 a2, .string a3, .string a4, .int .i64 a5, .slice B1 n1 b1, .int .i64 a6, .int .i64 a7, .string a8, .bool b0, .slice B2 n2 c2] 38)).drew) (Fr.drew (Fr.refl _ _)) (fun h => h)
  have hb5 := HB3.out.fr hF34 (fun h => h)
  have hb6 := HB4.out.fr hF34 (fun h => h)
  have HF4 := Lib.hid (HF3.out.trans hF34)
  clear HX5 hF34 HB3 HB4 HF3 k4
  generalize (w3.alloc (.cells #[.int .i64 a0, .int .i64 a1, .int .i64 a2, .string a3, .string a4, .int .i64 a5, .slice B1 n1 b1, .int .i64 a6, .int .i64 a7, .string a8, .bool b0, .slice B2 n2 c2] 38)).drew = w4 at *
  generalize w3.heap.size = g3 at *
  have e0 := hb6.cell 0
  have e1 := hb6.cell 1
  have e2 := hb6.cell 2
  have e3 := hb6.cell 3
  have e4 := hb6.cell 4
  have e5 := hb6.cell 5
  have e6 := hb6.cell 6
  have e7 := hb6.cell 7
  have e8 := hb6.cell 8
  have e9 := hb6.cell 9
  have e10 := hb6.cell 10
  have e11 := hb6.cell 11
  simp only [List.getElem?_toArray, List.getElem?_cons_zero, List.getElem?_cons_succ] at e0 e1 e2 e3 e4 e5 e6 e7 e8 e9 e10 e11
  try simp only at HPUT HWP HEND
  have hngk : ∀ k, k < g → ∀ j, (j = g ∨ j = g + 1) → j ≠ k := fun k hk j hj => by omega
  have hkmlt : r.km < g := by rw [← HG.out]; exact HH.out.kn.lt
  have hwmlt : r.wm < g := by rw [← HG.out]; exact HH.out.wt.lt
  have HX10 : Hid (∀ W, Fr (At1 r.km) w4 W → Fr (At1 r.km) w4 W ∧ W.cell? ⟨r.p, 0, none⟩ = some (.map (some r.km)) ∧ W.cell? ⟨g, 0, none⟩ = some (.int .i64 i1) ∧ W.cell? ⟨g, 1, none⟩ = some (.int .i64 i2) ∧ W.cell? ⟨g + 1, 0, none⟩ = some (.int .i64 x0) ∧ W.cell? ⟨g + 1, 1, none⟩ = some (.int .i64 x1) ∧ W.cell? ⟨g + 1, 2, none⟩ = some (.int .i64 x2) ∧ W.cell? ⟨g + 1, 3, none⟩ = some (.string x3) ∧ W.cell? ⟨g + 1, 4, none⟩ = some (.string x4) ∧ W.cell? ⟨g + 1, 5, none⟩ = some (.int .i64 x5) ∧ W.cell? ⟨g + 1, 6, none⟩ = some (.slice vB vn vd) ∧ W.cell? ⟨g + 1, 7, none⟩ = some (.int .i64 x7) ∧ W.cell? ⟨g + 1, 8, none⟩ = some (.int .i64 x8) ∧ W.cell? ⟨g + 1, 9, none⟩ = some (.string x9) ∧ W.cell? ⟨g + 1, 10, none⟩ = some (.bool bn) ∧ W.cell? ⟨g + 1, 11, none⟩ = some (.slice A q c)) := Lib.hid fun W hW => by
    have k1 := (HH.out.blk.fr HF4.out (fun h => h)).fr hW (fun e => HH.out.nek.1 (Eq.symm e))
    have k2 := hb5.fr hW (fun e => by have e : g = r.km := e; omega)
    have k3 := hb6.fr hW (fun e => by have e : g + 1 = r.km := e; omega)
    exact ⟨hW, k1.cell 0, k2.cell 0, k2.cell 1, k3.cell 0, k3.cell 1, k3.cell 2, k3.cell 3, k3.cell 4, k3.cell 5, k3.cell 6, k3.cell 7, k3.cell 8, k3.cell 9, k3.cell 10, k3.cell 11⟩
  have HB5 := Lib.hid hb5
  have HKL := Lib.hid (And.intro hkmlt hwmlt)
  have hk10 : Fr (At1 r.km) w4 w4.drew := (Fr.refl _ _).drew
  clear hx4 hb5 hb6 hngk hkmlt hwmlt
  go_upto_region 10 with (fail)
  go_region_held3 (fun W => Fr (At1 r.km) w4 W ∧ W.cell? ⟨r.p, 0, none⟩ = some (.map (some r.km)) ∧ W.cell? ⟨g, 0, none⟩ = some (.int .i64 i1) ∧ W.cell? ⟨g, 1, none⟩ = some (.int .i64 i2) ∧ W.cell? ⟨g + 1, 0, none⟩ = some (.int .i64 x0) ∧ W.cell? ⟨g + 1, 1, none⟩ = some (.int .i64 x1) ∧ W.cell? ⟨g + 1, 2, none⟩ = some (.int .i64 x2) ∧ W.cell? ⟨g + 1, 3, none⟩ = some (.string x3) ∧ W.cell? ⟨g + 1, 4, none⟩ = some (.string x4) ∧ W.cell? ⟨g + 1, 5, none⟩ = some (.int .i64 x5) ∧ W.cell? ⟨g + 1, 6, none⟩ = some (.slice vB vn vd) ∧ W.cell? ⟨g + 1, 7, none⟩ = some (.int .i64 x7) ∧ W.cell? ⟨g + 1, 8, none⟩ = some (.int .i64 x8) ∧ W.cell? ⟨g + 1, 9, none⟩ = some (.string x9) ∧ W.cell? ⟨g + 1, 10, none⟩ = some (.bool bn) ∧ W.cell? ⟨g + 1, 11, none⟩ = some (.slice A q c))
    (with_reducible refine HX10.out _ ?_; with_reducible assumption)
    (first | (go_at_call 50; (with_reducible refine (HCALL.out _ HF4.out.drew).mono ?_); rintro x w5 ⟨B, b, A2, c5, rfl, hen5, f5⟩; have hf45 : Fr No w4 w5 := Fr.trans (Fr.drew (Fr.refl _ _)) f5; have hk5 : Fr (At1 r.km) w4 w5 := Fr.mono hf45 (fun _ _ h => False.elim h); have hput := HPUT.out w5 (HF4.out.trans hf45) (.agg #[.int .i64 x0, .int .i64 x1, .int .i64 x2, .string x3, .string x4, .int .i64 x5, .slice B vn b, .int .i64 x7, .int .i64 x8, .string x9, .bool bn, .slice A2 q c5]); obtain ⟨w6, hrun6, ht6, hf6⟩ := hput; have hk6 : Fr (At1 r.km) w4 w6 := Fr.trans hk5 hf6; have HEN5 := Lib.hid hen5; have HF5 := Lib.hid hf45; have HF55 := Lib.hid f5; have HT6 := Lib.hid ht6; have HF6 := Lib.hid hf6; clear hen5 ht6 hf45))
  clear HX10 hrun6 hk10
  have hwt6 : WtT w6.drew r.wm s.wt := ((HH.out.wt.fr (HF4.out.trans HF5.out) (fun h => h)).fr HF6.out (fun e => HH.out.ne.1 (Eq.symm e))).fr (S := No) (Fr.refl _ _).drew (fun h => h)
  obtain ⟨w7, hrun7, hw7, hf7⟩ := HWP.out w6.drew hwt6
  have hk11 : Fr (At1 r.wm) w6 w6.drew := (Fr.refl _ _).drew
  have hk7 : Fr (At1 r.wm) w6 w7 := Fr.trans hk11 hf7
  have HK7 := Lib.hid hk7
  have HW7 := Lib.hid hw7
  have HX11 : Hid (∀ W, Fr (At1 r.wm) w6 W → Fr (At1 r.wm) w6 W ∧ W.cell? ⟨r.p, 1, none⟩ = some (.map (some r.wm)) ∧ W.cell? ⟨g, 0, none⟩ = some (.int .i64 i1) ∧ W.cell? ⟨g, 1, none⟩ = some (.int .i64 i2)) := Lib.hid fun W hW => by
    have hkl := HKL.out
    have k0 := HH.out.blk.fr (HF4.out.trans HF5.out) (fun h => h)
    have k1 := (k0.fr HF6.out (fun e => HH.out.nek.1 (Eq.symm e))).fr hW (fun e => HH.out.new_.1 (Eq.symm e))
    have k2 := ((HB5.out.fr HF5.out (fun h => h)).fr HF6.out (fun e => by have e : g = r.km := e; omega)).fr hW (fun e => by have e : g = r.wm := e; omega)
    exact ⟨hW, k1.cell 1, k2.cell 0, k2.cell 1⟩
  clear hwt6 hf7 hw7
  go_upto_region 11 with (fail)
  go_region_held3 (fun W => Fr (At1 r.wm) w6 W ∧ W.cell? ⟨r.p, 1, none⟩ = some (.map (some r.wm)) ∧ W.cell? ⟨g, 0, none⟩ = some (.int .i64 i1) ∧ W.cell? ⟨g, 1, none⟩ = some (.int .i64 i2))
    (with_reducible refine HX11.out _ ?_; with_reducible assumption)
    (fail)
  go_wp2
  go_ret
  exact ⟨rfl, HEND.out w4 w5 w6 w7 B A2 b c5 HF4.out HF5.out HEN5.out HT6.out HF6.out HW7.out HK7.out⟩
end Go.Proofs.YtcpgamidimfflaaGreat
namespace Go.Proofs.YtcpgamidimfflaaGreat
open Go.RowKit Go.My Go.Maps
set_option linter.unusedSimpArgs false
set_option linter.unusedVariables false
theorem rcommit_any (w : World) (r : Pr) (s : Ru) (F : Nat → Prop) (i : In2) (e : En) (v : Value) (A : Option Addr) (c : Nat) (h : RnS w r s) (hs : EnS w F e v A c) (hd : e.deps.length ≤ 1000000) :
    Calls Tryz.prog 15 #[.pointer (some ⟨r.p, 0, none⟩), .agg #[.int .i64 i.1, .int .i64 i.2], e.val v (.slice A e.deps.length c)] w fun x w' => x = .returned (.int .i64 (s.comE i e)) ∧ ChgRn r w (s.com i e) w' := by
  by_cases hr : rightE i e = true
  · cases hg : s.get i with
    | none =>
      rw [(Ru.com_new hr hg).2]
      exact commit_new w r s F i e v A c h hs hd hr hg
    | some e2 =>
      have e1 : s.comE i e = if sameE e2 e = true then 0 else 7 := by unfold Ru.comE; rw [if_pos hr, hg]
      have e3 : s.com i e = s := by unfold Ru.com; rw [if_pos hr, hg]
      rw [e1, e3]
      exact (commit_known w r s F i e v A c h hs hd hr e2 hg).mono fun x w' hx => ⟨hx.1, ChgRn.same h hx.2⟩
  · have hr' : rightE i e = false := by cases hh : rightE i e with | false => rfl | true => exact absurd hh hr
    have e1 : s.comE i e = 1 := by unfold Ru.comE; rw [if_neg hr]
    have e3 : s.com i e = s := by unfold Ru.com; rw [if_neg hr]
    rw [e1, e3]
    exact (commit_bad w r.p F i e v A c hs hd hr').mono fun x w' hx => ⟨hx.1, ChgRn.same h hx.2⟩
end Go.Proofs.YtcpgamidimfflaaGreat
namespace Go.Proofs.YtcpgamidimfflaaGreat
open Go.RowKit Go.My Go.My.Kn
set_option linter.unusedSimpArgs false
set_option linter.unusedVariables false
def MissOf (s : Ru) (M : List In2) : Prop := RiseI M ∧ ∀ d, d ∈ M ↔ ∃ i ∈ s.ws, d ∈ s.dp i ∧ d ∉ s.ks
def AllDone (s : Ru) : Prop := ∀ a, Opn s.ks s.dp a → s.wt a = false
theorem RunOf.done {s : Ru} {row : List In2} (h : RunOf s row) : AllDone (s.execs row) := fun a ha => by
  rw [execs_ks, execs_dp] at ha
  rw [(execs_S row s).2 a]
  cases hw : s.wt a with
  | false => simp
  | true => rw [decide_eq_true ((h.2.1 a).2 ⟨ha, hw⟩)]; rfl
theorem AllDone.ws {s : Ru} (hi : RuI s) (h : AllDone s) (a : In2) : a ∈ s.ws ↔ a ∈ s.ks ∧ ¬ Opn s.ks s.dp a := by
  rw [ws_mem hi]
  constructor
  · intro hw
    refine ⟨hi.sub a hw, fun ho => ?_⟩
    rw [h a ho] at hw
    cases hw
  · rintro ⟨hk, ho⟩
    cases hw : s.wt a with
    | true => rfl
    | false => exact absurd (hi.clo.opn hk hw) ho
end Go.Proofs.YtcpgamidimfflaaGreat
namespace Go.Proofs.YtcpgamidimfflaaGreat
open Go.RowKit Go.My Go.Maps Go.WideMaps
set_option linter.unusedSimpArgs false
set_option linter.unusedVariables false
attribute [local go_sem ↓] Go.wp_at_zero Go.wp_at_succ
theorem rise_pw {L : List In2} (hp : L.Pairwise fun a b => aheadI b a = false) (h1 : L.Nodup) : RiseI L := (hp.and h1).imp fun {a b} h => by
  rcases aheadI_total h.2 with k | k
  · exact k
  · rw [h.1] at k; cases k
def MsP (s : Ru) (acc : List In2) (ds : List In2) (q : In2 → Bool) : Prop := ∀ d, q d = true ↔ (∃ i ∈ acc, d ∈ s.dp i ∧ d ∉ s.ks) ∨ (d ∈ ds ∧ d ∉ s.ks)
theorem MsP.zero (s : Ru) : MsP s [] [] (fun _ => false) := fun d => by simp
theorem MsP.more {s : Ru} {acc ds : List In2} {q : In2 → Bool} (h : MsP s acc ds q) {d : In2} (hd : d ∉ s.ks) : MsP s acc (ds ++ [d]) (fun j => decide (j = d) || q j) := fun j => by
  rw [Bool.or_eq_true, decide_eq_true_iff, h j, List.mem_append, List.mem_singleton]
  constructor
  · rintro (rfl | h | h)
    · exact .inr ⟨.inr rfl, hd⟩
    · exact .inl h
    · exact .inr ⟨.inl h.1, h.2⟩
  · rintro (h | ⟨h | rfl, h2⟩)
    · exact .inr (.inl h)
    · exact .inr (.inr ⟨h, h2⟩)
    · exact .inl rfl
theorem MsP.skip {s : Ru} {acc ds : List In2} {q : In2 → Bool} (h : MsP s acc ds q) {d : In2} (hd : d ∈ s.ks) : MsP s acc (ds ++ [d]) q := fun j => by
  rw [h j, List.mem_append, List.mem_singleton]
  constructor
  · rintro (h | h)
    · exact .inl h
    · exact .inr ⟨.inl h.1, h.2⟩
  · rintro (h | ⟨h | rfl, h2⟩)
    · exact .inl h
    · exact .inr ⟨h, h2⟩
    · exact absurd hd h2
theorem MsP.next {s : Ru} {acc : List In2} {q : In2 → Bool} {i : In2} (h : MsP s acc (s.dp i) q) : MsP s (acc ++ [i]) [] q := fun j => by
  rw [h j]
  constructor
  · rintro (⟨k, hk, h1⟩ | h1)
    · exact .inl ⟨k, List.mem_append_left _ hk, h1⟩
    · exact .inl ⟨i, List.mem_append_right _ (List.mem_singleton.2 rfl), h1⟩
  · rintro (⟨k, hk, h1⟩ | ⟨h1, _⟩)
    · rcases List.mem_append.1 hk with hk | hk
      · exact .inl ⟨k, hk, h1⟩
      · rw [List.mem_singleton] at hk
        subst hk
        exact .inr h1
    · cases h1
theorem dp_right {s : Ru} (h : RuI s) (i : In2) : ∀ d ∈ s.dp i, rightI d = true := fun d hd => by
  unfold Ru.dp at hd
  cases hg : s.get i with
  | none => rw [hg] at hd; cases hd
  | some e =>
    rw [hg] at hd
    exact ((rightE_d (h.right _ (getS_some hg))).2 d hd).1
theorem MsP.right {s : Ru} (hi : RuI s) {acc ds : List In2} {q : In2 → Bool} (h : MsP s acc ds q) (hds : ∀ d ∈ ds, rightI d = true) : ∀ d, q d = true → rightI d = true := fun d hd => by
  rcases (h d).1 hd with ⟨i, _, h1, _⟩ | ⟨h1, _⟩
  · exact dp_right hi i d h1
  · exact hds d h1
def MsT (w : World) (m : Nat) (q : In2 → Bool) : Prop := ∃ L, TabI Tryz.prog 30 w m L (wtF q)
theorem MsT.keys {w : World} {m : Nat} {q : In2 → Bool} {L : List In2} (h : TabI Tryz.prog 30 w m L (wtF q)) (x : In2) : x ∈ L ↔ q x = true := by
  rw [h.mem]
  unfold wtF
  by_cases e : q x = true
  · rw [if_pos e]; exact ⟨fun _ => e, fun _ => rfl⟩
  · rw [if_neg e]; exact ⟨fun h => (by cases h), fun h => absurd h e⟩
def MsO (s : Ru) (w : World) (wm m rb : Nat) (L : List In2) (f : Idk → Option Value) (wr : World) : Prop :=
  ∃ (acc : List In2) (cnt : Nat) (q : In2 → Bool), RngI Tryz.prog 30 wr wm rb L f acc cnt ∧ MsT wr m q ∧ MsP s acc [] q ∧ Fr No w wr
def MsI (s : Ru) (w : World) (wm m rb : Nat) (L : List In2) (f : Idk → Option Value) (acc : List In2) (i : In2) (c1 : Nat) (ds : List In2) (jv : Value) (wr : World) : Prop :=
  ∃ (j : Nat) (q : In2 → Bool), j ≤ ds.length ∧ jv = .int .i64 (j : Int) ∧ RngI Tryz.prog 30 wr wm rb L f (acc ++ [i]) c1 ∧ MsT wr m q ∧ MsP s acc (ds.take j) q ∧ Fr No w wr
set_option maxRecDepth 100000 in
set_option maxHeartbeats 2000000 in
theorem rmiss_any (w : World) (r : Pr) (s : Ru) (h : RnS w r s) (hm : ∀ i, (s.dp i).length ≤ 10000) :
    Calls Tryz.prog 28 #[.pointer (some ⟨r.p, 0, none⟩)] w fun e w' => ∃ M, MissOf s M ∧ M.length ≤ 80000 ∧ RetOwn w 30 2 none M.length (ins2 M) e w' := by
  have hmm := @run_makeMap Tryz.prog
  have HH := Lib.hid h
  have HM := Lib.hid hm
  obtain ⟨wL, hwt⟩ := h.wt
  have HWL : Hid (∀ x, x ∈ wL ↔ x ∈ s.ws) := Lib.hid (wts_mem h.inv hwt)
  have hb1 := (h.blk.alloc (.map #[] 0)).cell 1
  simp only [List.getElem?_toArray, List.getElem?_cons_zero, List.getElem?_cons_succ] at hb1
  have HT0 : Hid (MsT (w.alloc (.map #[] 0)) w.heap.size (fun _ => false)) := Lib.hid ⟨[], TabI.made w⟩
  have HWT : Hid (TabI Tryz.prog 30 (w.alloc (.map #[] 0)) r.wm wL (wtF s.wt)) := Lib.hid (hwt.fr ((Fr.refl No _).alloc _) (fun h => h))
  have hwlt := hwt.lt
  clear h hm hwt
  go_enter Tryz.func28, Tryz.ntmps28
  go_wp2_with (at_range; refine wpList_rangeI rfl (.tmp 13) 89 100 rfl keyIn Tryz.underlying89 rfl HWT.out ?_; intro w0 hrg0 hf0)
  have HF0 : Hid (Fr No w w0) := Lib.hid (((Fr.refl _ _).alloc _).trans hf0)
  have HMT0 : Hid (MsT w0 w.heap.size (fun _ => false)) := Lib.hid (by obtain ⟨L, hL⟩ := HT0.out; exact ⟨L, hL.fr hf0 (fun h => h)⟩)
  have HRG0 := Lib.hid hrg0
  have hrm : (w.alloc (.map #[] 0)).heap.size = w.heap.size + 1 := World.size_alloc _ _
  clear hrg0 hf0 HT0 HWT hb1
  generalize hrb : (w.alloc (.map #[] 0)).heap.size = rb at *
  generalize hmb : w.heap.size = m at *
  have HRB := Lib.hid hrm
  have HMB := Lib.hid hmb
  clear hrb hrm hmb
  go_frame
  go_loopw [15] (fun _ wr => MsO s w r.wm m rb wL (wtF s.wt) wr) (fun _ wr => wr.rangeLeft r.wm rb)
  case atStart => exact ⟨[], _, _, HRG0.out, HMT0.out, MsP.zero s, HF0.out⟩
  case round =>
    obtain ⟨acc, cnt, q, hrg, hmt, hmp, hfr⟩ := hrel
    have HRG := Lib.hid hrg
    have HMT := Lib.hid hmt
    have HMP := Lib.hid hmp
    have HFR := Lib.hid hfr
    clear hrg hmt hmp hfr
    go_wp2_with (at_next; refine wpList_nextI rfl (.tmp 14) rfl keyIn rfl HRG.out ?_ ?_)
    · intro hp
      obtain ⟨L, hL⟩ := HMT.out
      have hkey := MsT.keys hL
      have hri : ∀ d ∈ L, rightI d = true := fun d hd => HMP.out.right HH.out.inv (fun d h => by cases h) d ((hkey d).1 hd)
      have hl8 : L.length ≤ 80000 := right_few hL.nd hri
      have HSO := Lib.hid (sortedN_any m L (wtF q) wr hL (by omega))
      have HMO : Hid (∀ M, M.Perm L → M.Pairwise (fun a b => aheadI b a = false) → MissOf s M) := Lib.hid fun M h1 h2 => by
        refine ⟨rise_pw h2 (h1.nodup_iff.2 hL.nd), fun d => ?_⟩
        rw [h1.mem_iff, hkey, HMP.out d]
        constructor
        · rintro (⟨i, hi, h3⟩ | ⟨h3, _⟩)
          · exact ⟨i, (HWL.out i).1 (hp.mem_iff.1 hi), h3⟩
          · cases h3
        · rintro ⟨i, hi, h3⟩
          exact .inl ⟨i, hp.mem_iff.2 ((HWL.out i).2 hi), h3⟩
      clear hkey hri hL
      go_wp2_with (go_at_call 63; (with_reducible refine HSO.out.mono ?_); rintro _ w5 ⟨v, M, rfl, p1, p2, p3, p4, p5⟩; have H5 := Lib.hid (And.intro p1 (And.intro p2 (And.intro p3 (And.intro p4 p5)))); clear p1 p2 p3 p4 p5)
      go_ret
      obtain ⟨p1, p2, p3, p4, p5⟩ := H5.out
      refine ⟨M, HMO.out M p1 p2, by rw [p1.length_eq]; exact hl8, v, rfl, p1.length_eq ▸ p3, (HFR.out.trans p5).mono (fun _ _ h => False.elim h), ?_⟩
      rcases p4 with e | ⟨j, e, hj⟩
      · exact .inl e
      · exact .inr ⟨j, e, Nat.le_trans HFR.out.size hj⟩
    · intro x1 x2 v w1 cnt1 hk1 hk2 hk3 hk4 hrg1 hlt hf1 hs1 hen
      have hFw1 : Fr No w w1 := HFR.out.trans' hf1 (fun i hi hlt => by have hi : i = rb := hi; have := HRB.out; have := HMB.out; omega)
      have hks : ((x1, x2) : In2) ∈ s.ks := HH.out.inv.sub _ ((ws_mem HH.out.inv _).1 ((HWL.out _).1 hk2))
      obtain ⟨e, he⟩ : ∃ e, s.get (x1, x2) = some e := Option.isSome_iff_exists.1 (Ru.get_mem.2 hks)
      obtain ⟨eB, eA, eb, ec, hen2, hlook⟩ := HH.out.look hk1 he
      have hdp : s.dp (x1, x2) = e.deps := by unfold Ru.dp; rw [he]; rfl
      have HDR : Hid (∀ W, Fr No w W → Rd W r.E 2 eA e.deps.length (ins2 e.deps)) := Lib.hid fun W hW => (hen2.no hW).deps
      have HDK : Hid (∀ d ∈ e.deps, rightI d = true) := Lib.hid (by have := dp_right HH.out.inv (x1, x2); rw [hdp] at this; exact this)
      have hq : e.deps.length ≤ 10000 := by have := HM.out (x1, x2); rw [hdp] at this; exact this
      have HNX : Hid (∀ q, MsP s acc e.deps q → MsP s (acc ++ [(x1, x2)]) [] q) := Lib.hid fun q h => MsP.next (by rw [hdp]; exact h)
      have HMT1 : Hid (MsT w1 m q) := Lib.hid (by obtain ⟨L, hL⟩ := HMT.out; exact ⟨L, hL.fr hf1 (fun e => by have e : m = rb := e; have := HRB.out; omega)⟩)
      have HRG1 := Lib.hid hrg1
      have HFW1 := Lib.hid hFw1
      have HLT := Lib.hid hlt
      clear he hdp hen2 hks hk1 hk2 hk3 hk4 hrg1 hlt hf1 hs1 hFw1
      obtain ⟨⟨a0, a1, a2, a3, a4, a5, lg, a6, a7, a8⟩, b0, ds⟩ := e
      unfold En.val at hlook
      simp only at hlook HDR HDK hq HNX
      have HX : Hid (∀ W, Fr No (w1.alloc (.cells #[.int .i64 x1, .int .i64 x2] 30)) W → Fr No (w1.alloc (.cells #[.int .i64 x1, .int .i64 x2] 30)) W ∧ W.cell? ⟨r.p, 0, none⟩ = some (.map (some r.km)) ∧ W.cell? ⟨w1.heap.size, 0, none⟩ = some (.int .i64 x1) ∧ W.cell? ⟨w1.heap.size, 1, none⟩ = some (.int .i64 x2) ∧ (Instr.lookup 88 (.map (some r.km)) (.agg #[.int .i64 x1, .int .i64 x2]) false).run Tryz.prog W = .ok (.agg #[.int .i64 a0, .int .i64 a1, .int .i64 a2, .string a3, .string a4, .int .i64 a5, .slice eB lg.length eb, .int .i64 a6, .int .i64 a7, .string a8, .bool b0, .slice eA ds.length ec]) W) := Lib.hid fun W hW => by
        have hW2 : Fr No w W := (HFW1.out.alloc _).trans hW
        have h2 := (Blk.new w1 30 #[.int .i64 x1, .int .i64 x2]).fr hW (fun h => h)
        exact ⟨hW, (HH.out.blk.fr hW2 (fun h => h)).cell 0, h2.cell 0, h2.cell 1, hlook W hW2⟩
      clear hlook
      have hfd := fun W => fieldDeps a0 a1 a2 a3 a4 a5 eB lg.length eb a6 a7 a8 b0 eA ds.length ec W
      go_upto_region 7 with (fail)
      have HF12 : Hid (Fr No w1 (w1.alloc (.cells #[.int .i64 x1, .int .i64 x2] 30))) := Lib.hid ((Fr.refl No w1).alloc _)
      generalize hg : w1.heap.size = g at *
      generalize w1.alloc (.cells #[.int .i64 x1, .int .i64 x2] 30) = w2 at *
      go_region_held3 (fun W => Fr No w2 W ∧ W.cell? ⟨r.p, 0, none⟩ = some (.map (some r.km)) ∧ W.cell? ⟨g, 0, none⟩ = some (.int .i64 x1) ∧ W.cell? ⟨g, 1, none⟩ = some (.int .i64 x2) ∧ (Instr.lookup 88 (.map (some r.km)) (.agg #[.int .i64 x1, .int .i64 x2]) false).run Tryz.prog W = .ok (.agg #[.int .i64 a0, .int .i64 a1, .int .i64 a2, .string a3, .string a4, .int .i64 a5, .slice eB lg.length eb, .int .i64 a6, .int .i64 a7, .string a8, .bool b0, .slice eA ds.length ec]) W)
        (first
          | (with_reducible refine HX.out _ ?_; with_reducible assumption)
          | (with_reducible refine HX.out _ ?_; exact Fr.drew (Fr.refl _ _)))
        (fail)
      clear HX
      have HF1o : Hid (Fr No w1 w2.drew) := Lib.hid HF12.out.drew
      have HFO : Hid (Fr No w w2.drew) := Lib.hid (HFW1.out.trans HF1o.out)
      have HMTo : Hid (MsT w2.drew m q) := Lib.hid (by obtain ⟨L, hL⟩ := HMT1.out; exact ⟨L, hL.fr HF1o.out (fun h => h)⟩)
      have HRGo : Hid (RngI Tryz.prog 30 w2.drew r.wm rb wL (wtF s.wt) (acc ++ [(x1, x2)]) cnt1) := Lib.hid (HRG1.out.fr HF1o.out (fun h => h) (fun h => h))
      have HMPo : Hid (MsP s acc (ds.take 0) q) := Lib.hid HMP.out
      clear HF12 HF1o HMT1 HRG1 HFW1 HMT HMP hen hg
      go_wp2
      generalize w2.drew = wo at *
      go_loopw [27] (fun jv wq => MsI s w r.wm m rb wL (wtF s.wt) acc (x1, x2) cnt1 ds jv wq) (fun jv _ => ds.length - (intOf jv).toNat)
      case atStart => exact ⟨0, q, Nat.zero_le _, rfl, HRGo.out, HMTo.out, HMPo.out, HFO.out⟩
      case round =>
        obtain ⟨j, q2, hj, rfl, hrg, hmt, hmp, hfr⟩ := hrel
        by_cases hlj : j < ds.length
        · obtain ⟨ad2, rfl, _, q0, q1⟩ := in2_at (HDR.out _ hfr) j hlj
          have hdk := rightI_ok (HDK.out _ (List.getElem_mem hlj))
          have hrd : ∀ d ∈ ds.take j, rightI d = true := fun d hd => HDK.out d (List.mem_of_mem_take hd)
          have HTK : Hid (ds.take (j + 1) = ds.take j ++ [ds[j]]) := List.take_succ_eq_append_getElem hlj
          have hri := MsP.right HH.out.inv hmp hrd
          obtain ⟨qL, hqL⟩ := hmt
          have hql : qL.length ≤ 80000 := right_few hqL.nd fun d hd => hri d ((MsT.keys hqL d).1 hd)
          have HDK1 := Lib.hid hdk
          have HMP := Lib.hid hmp
          have HRG := Lib.hid hrg
          have HFR := Lib.hid hfr
          have HQL := Lib.hid hqL
          have HKN : Hid (∀ W, Fr No w W → Calls Tryz.prog 64 #[.pointer (some ⟨r.p, 0, none⟩), .agg #[.int .i64 ds[j].1, .int .i64 ds[j].2]] W fun e w' => e = .returned (.bool (decide (ds[j] ∈ s.ks))) ∧ Fr No W w') := Lib.hid fun W hW => knowsS_any W r s (HH.out.no hW) ds[j] hdk
          clear hdk hrd hri hmp hrg hfr hqL
          generalize ds[j] = d at *
          have HNM : Hid (d ∉ s.ks → MsP s acc (ds.take (j + 1)) (fun k => decide (k = d) || q2 k)) := Lib.hid fun hd => by rw [HTK.out]; exact HMP.out.more hd
          have HNS : Hid (d ∈ s.ks → MsP s acc (ds.take (j + 1)) q2) := Lib.hid fun hd => by rw [HTK.out]; exact HMP.out.skip hd
          generalize hkd : decide (d ∈ s.ks) = kd at *
          have HKD := Lib.hid hkd
          clear hkd HTK HMP
          obtain ⟨d1, d2⟩ := d
          simp only at q0 q1 HKN
          have hdb := Blk.new wr 30 #[.int .i64 d1, .int .i64 d2]
          have HFA : Hid (Fr No wr (wr.alloc (.cells #[.int .i64 d1, .int .i64 d2] 30))) := Lib.hid ((Fr.refl _ _).alloc _)
          go_upto_region 10 with (fail)
          generalize wr.heap.size = g3 at *
          generalize wr.alloc (.cells #[.int .i64 d1, .int .i64 d2] 30) = W3 at *
          have y0 := hdb.cell 0
          have y1 := hdb.cell 1
          simp only [List.getElem?_toArray, List.getElem?_cons_zero, List.getElem?_cons_succ] at y0 y1
          have HDB := Lib.hid hdb
          clear hdb q0 q1
          cases kd with
          | true =>
            go_wp2_with (go_at_call 64; (with_reducible refine (HKN.out _ (HFR.out.trans HFA.out)).mono ?_); rintro _ W4 ⟨rfl, f4⟩; have HF4 := Lib.hid (HFA.out.trans f4); clear f4)
            go_roundw
            case rel => exact ⟨j + 1, q2, by omega, by go_num, HRG.out.fr HF4.out (fun h => h) (fun h => h), ⟨_, HQL.out.fr HF4.out (fun h => h)⟩, HNS.out (of_decide_eq_true HKD.out), HFR.out.trans HF4.out⟩
            case measure => simp [intOf]; omega
          | false =>
            go_upto_region 11 with (go_at_call 64; (with_reducible refine (HKN.out _ (HFR.out.trans HFA.out)).mono ?_); rintro _ W4 ⟨rfl, f4⟩; have HF34 := Lib.hid f4; have HF4 := Lib.hid (HFA.out.trans f4); clear f4)
            have hdb4 := HDB.out.fr HF34.out (fun h => h)
            have u0 := hdb4.cell 0
            have u1 := hdb4.cell 1
            simp only [List.getElem?_toArray, List.getElem?_cons_zero, List.getElem?_cons_succ] at u0 u1
            clear y0 y1 hdb4
            go_wp2_with (at_mapUpdate; refine wpList_putK rfl (.tmp 35) (.tmp 36) (.tmp 37) 89 100 rfl keyIn Tryz.underlying89 rfl (HQL.out.fr HF4.out (fun h => h)) (d1, d2) HDK1.out (.agg #[]) rfl rfl (by simp only [maxLen]; omega) ?_; intro w7 ht7 hf7)
            have HT7 : Hid (MsT w7 m (fun k => decide (k = (d1, d2)) || q2 k)) := Lib.hid ⟨_, by rw [← wtF_put]; exact ht7⟩
            have HR7 := Lib.hid ((HRG.out.fr HF4.out (fun h => h) (fun h => h)).fr hf7 (fun e => by have e : r.wm = m := e; omega) (fun e => by have e : rb = m := e; have := HRB.out; omega))
            have HF7 : Hid (Fr No w w7) := Lib.hid ((HFR.out.trans HF4.out).trans' hf7 (fun k hk hlt => by have hk : k = m := hk; have := HMB.out; omega))
            clear ht7 hf7
            go_roundw
            case rel => exact ⟨j + 1, _, by omega, by go_num, HR7.out, HT7.out, HNM.out (of_decide_eq_false HKD.out), HF7.out⟩
            case measure => simp [intOf]; omega
        · obtain rfl : j = ds.length := by omega
          rw [List.take_length] at hmp
          have HRG2 := Lib.hid hrg
          have HMT2 := Lib.hid hmt
          have HMP2 := Lib.hid (HNX.out q2 hmp)
          have HFR2 := Lib.hid hfr
          clear hrg hmt hmp hfr
          go_wp2
          go_roundw
          case rel => exact ⟨acc ++ [(x1, x2)], cnt1, q2, HRG2.out, HMT2.out, HMP2.out, HFR2.out⟩
          case measure =>
            rw [HRG2.out.left_eq, HRG.out.left_eq]
            exact HLT.out
end Go.Proofs.YtcpgamidimfflaaGreat
namespace Go.Proofs.YtcpgamidimfflaaGreat
open Go.RowKit Go.My Go.Maps
set_option linter.unusedSimpArgs false
set_option linter.unusedVariables false
def NmB (S : List Ac) : Prop := ∀ a ∈ S, nameB a.name = true
theorem NmB.put {S : List Ac} (h : NmB S) {a : Ac} (ha : nameB a.name = true) : NmB (putA a S) := fun b hb => by
  rcases mem_putA hb with rfl | hb
  · exact ha
  · exact h b hb
theorem NmB.act {S : List Ac} (h : NmB S) {f : Ac → Int} {g : Ac → Ac} (hg : ∀ a, (g a).name = a.name) (nm : List UInt8) : NmB (actS f g S nm) := by
  unfold actS
  cases hq : getA S nm with
  | none => exact h
  | some a =>
    simp only
    split
    · exact h.put (by rw [hg]; exact h a (getA_some hq).1)
    · exact h
theorem NmB.asd {S : List Ac} (h : NmB S) (nm : List UInt8) (x : Int) : NmB (asdS S nm x) := h.act (fun a => asideA_name a x) nm
theorem NmB.leg {S : List Ac} (h : NmB S) (g : Lg) : NmB (legS S g) := by
  unfold legS
  split
  · exact h.act (fun a => giveA_name a _) _
  · exact h
theorem NmB.legs {S : List Ac} (h : NmB S) (L : List Lg) : NmB (legsS S L) := by
  induction L generalizing S with
  | nil => exact h
  | cons g r ih =>
    unfold legsS
    split
    · exact ih (h.leg g)
    · exact h
theorem NmB.make {S : List Ac} (h : NmB S) (L : List Lg) : NmB (makeS S L) := by
  unfold makeS
  split
  · exact h.legs L
  · exact h
theorem NmB.doB {b : Bk} (h : NmB b.S) (o : Od) : NmB (doB b o).S := by
  unfold Go.Proofs.YtcpgamidimfflaaGreat.doB
  split
  · unfold effB
    split
    · simp only
      unfold openS
      split
      · rename_i h0
        refine h.put ?_
        unfold openE at h0
        split at h0
        · cases h0
        · rename_i h1
          simp only [not_or, Bool.not_eq_false] at h1
          exact h1.1
      · exact h
    split
    · split
      · exact h
      · exact h.make _
    split
    · simp only
      unfold putSS
      split
      · exact h.asd _ _
      · exact h
    split
    · split
      · exact h
      · simp only
        unfold takeSS
        split
        · exact (h.asd _ _).make _
        · exact h
    split
    · simp only
      unfold freeSS
      split
      · exact h
      · exact h.asd _ _
    split
    · split
      · exact h
      · exact h
    exact h
  · exact h
def askOd (seq kd : Int) (acct : ByteArray) (sum : Int) : Od := ⟨0, seq, kd, acct, ⟨#[]⟩, sum, [], 0, 0, ⟨#[]⟩⟩
theorem ask_right {s : Int} (hs : 1 ≤ s ∧ s ≤ 999) (a : ByteArray) : rightO (askOd s 7 a 0) = nameB a.data.toList := by
  unfold rightO idB acctB peerB sumB legsB perB holdB noteB askOd Od.an Od.pn
  simp [hs.1, hs.2]
theorem ask_do {b : Bk} {s : Int} (hs : 1 ≤ s ∧ s ≤ 999) (a : ByteArray) : doR b (askOd s 7 a 0) = (if nameB a.data.toList = true then aboutR b.S a.data.toList 0 else errR 1) ∧ doB b (askOd s 7 a 0) = b := by
  unfold doR doB
  rw [ask_right hs]
  refine ⟨rfl, ?_⟩
  split <;> rfl
end Go.Proofs.YtcpgamidimfflaaGreat
