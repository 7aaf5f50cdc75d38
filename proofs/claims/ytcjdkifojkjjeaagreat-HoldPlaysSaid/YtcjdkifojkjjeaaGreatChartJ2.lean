/- The document's own chart: Free, Give, Aside. -/
import Derived.Test.YtcjdkifojkjjeaaGreatChartJ1
namespace Go.Proofs.YtcjdkifojkjjeaaGreat
open Go.RowKit Go.My Go.Maps
set_option linter.unusedSimpArgs false
set_option linter.unusedVariables false
attribute [local go_sem ↓] Go.wp_at_zero Go.wp_at_succ

theorem total2 (a b : Int) : total [a, b] = a + b := by simp [total_cons, total_nil]
set_option maxRecDepth 100000 in
set_option maxHeartbeats 1000000 in
theorem reffree_any (a : Ac) (x : Int) (w : World) (ha : OkA a) (hx : 0 < x ∧ x ≤ 9223372036854775807) :
    Calls Tryz.prog 46 #[.agg #[.string ⟨a.name.toArray⟩, .int .i64 a.hv, .int .i64 a.st, .int .i64 a.lim], .int .i64 x] w fun e w' => e = .returned (.bool (freeB a x)) ∧ Fr No w w' := by
  obtain ⟨h1, h2, h3⟩ := ha
  have hfr : Hid (freeB a x = decide (-a.lim ≤ a.hv - a.st - x)) := rfl
  obtain ⟨nm, hv, st, lim⟩ := a
  simp only at *
  unfold In64 at h1
  obtain ⟨hx1, hx2⟩ := hx
  have HT : Hid (∀ W, Blk W (w.heap.size + 1) 2 #[.int .i64 hv, .int .i64 (-st)] → Calls Tryz.prog 68 #[.slice (some ⟨w.heap.size + 1, 0, none⟩) 2 2] W fun e w' => e = .returned (two64 (hv - st)) ∧ Fr No W w') := fun W hb => by
    have h := reftotal_any (some ⟨w.heap.size + 1, 0, none⟩) 2 [hv, -st] W ⟨rfl, fun _ => ⟨_, rfl, hb.lt, World.news_of_block hb⟩⟩ (fun y hy => by
      simp only [List.mem_cons, List.not_mem_nil, or_false] at hy
      unfold In64
      rcases hy with rfl | rfl <;> omega) (by simp)
    rw [total2, show hv + -st = hv - st by omega] at h
    exact h.mono fun _ _ h => ⟨h.1, Fr.of_below h.2 _⟩
  have HLS : Hid (∀ W, In64 (hv - st) → Calls Tryz.prog 45 #[.int .i64 (hv - st), .int .i64 x] W fun e w' => e = .returned (two64 (hv - st - x)) ∧ Fr No W w') := fun W hi =>
    (refless_any (hv - st) x W hi (by unfold In64; omega)).mono fun _ _ h => ⟨h.1, Fr.of_below h.2 _⟩
  have hb1 := Blk.new w 56 #[.string ⟨nm.toArray⟩, .int .i64 hv, .int .i64 st, .int .i64 lim]
  have HB1 : Hid (∀ o : Obj, ∀ W, Fr No ((w.alloc (.cells #[.string ⟨nm.toArray⟩, .int .i64 hv, .int .i64 st, .int .i64 lim] 56)).alloc o) W → W.cell? ⟨w.heap.size, 3, none⟩ = some (.int .i64 lim) ∧ Fr No w W) := fun o W hW =>
    ⟨((hb1.alloc o).fr hW (fun h => h)).cell 3, (((Fr.refl No w).alloc _).alloc _).trans hW⟩
  go_enter Tryz.func46, Tryz.ntmps46
  go_wp2_with fail
  refine (HT.out _ (by
    have hb := Blk.new (w.alloc (.cells #[.string ⟨nm.toArray⟩, .int .i64 hv, .int .i64 st, .int .i64 lim] 56)) 2 #[.int .i64 hv, .int .i64 (-st)]
    rw [World.size_alloc] at hb
    exact hb)).mono ?_
  rintro e w2 ⟨rfl, hf2⟩
  have HF2 := Lib.hid hf2
  clear hf2 hb1
  by_cases hin : In64 (hv - st)
  · have HL2 := Lib.hid (HLS.out w2 hin)
    rw [two64_in hin]
    unfold In64 at hin
    by_cases hin2 : In64 (hv - st - x)
    · have H2 := Lib.hid (two64_in hin2)
      unfold In64 at hin2
      go_wp2_with fail
      refine HL2.out.mono ?_
      rintro e w3 ⟨rfl, hf3⟩
      obtain ⟨q3, hfa⟩ := HB1.out _ _ (HF2.out.trans hf3)
      have HFA := Lib.hid hfa
      rw [H2.out]
      clear hf3 hfa
      go_wp2
      go_ret
      exact ⟨by rw [hfr.out]; rfl, HFA.out⟩
    · have H2 := Lib.hid (two64_out hin2)
      have H3 : Hid (freeB ⟨nm, hv, st, lim⟩ x = false) := by
        show freeB _ _ = false
        rw [hfr.out, decide_eq_false_iff_not]
        unfold In64 at hin2
        omega
      clear hin2
      go_wp2_with fail
      refine HL2.out.mono ?_
      rintro e w3 ⟨rfl, hf3⟩
      obtain ⟨q3, hfa⟩ := HB1.out _ _ (HF2.out.trans hf3)
      have HFA := Lib.hid hfa
      rw [H2.out]
      clear hf3 hfa
      go_wp2
      go_ret
      exact ⟨by rw [H3.out]; rfl, HFA.out⟩
  · have H3 : Hid (freeB ⟨nm, hv, st, lim⟩ x = false) := by
      show freeB _ _ = false
      rw [hfr.out, decide_eq_false_iff_not]
      unfold In64 at hin
      omega
    rw [two64_out hin]
    clear hin
    have HFA := Lib.hid (HB1.out _ _ HF2.out).2
    go_wp2
    go_ret
    exact ⟨by rw [H3.out]; rfl, HFA.out⟩

/-- handed back: an error's number; and the document's chart holds S' -/
def DeedsR (q : Nat) (n : Int) (S' : List Ac) (w : World) (e : Ending) (w' : World) : Prop := e = .returned (.int .i64 n) ∧ RfS w' q S' ∧ Fr (At1 q) w w'

theorem act_none {S : List Ac} {nm : List UInt8} (f : Ac → Int) (g : Ac → Ac) (h : getA S nm = none) : actE f S nm = 6 ∧ actS f g S nm = S := by
  unfold actE actS
  rw [h]
  exact ⟨rfl, rfl⟩
theorem act_some {S : List Ac} {nm : List UInt8} (f : Ac → Int) (g : Ac → Ac) {a : Ac} (h : getA S nm = some a) : actE f S nm = f a ∧ actS f g S nm = if f a = 0 then putA (g a) S else S := by
  unfold actE actS
  rw [h]
  exact ⟨rfl, rfl⟩

theorem acs_ones (S : List Ac) : ∀ y ∈ acs S, y.oneCell' = true := by
  intro y hy
  unfold acs at hy
  rw [List.mem_flatMap] at hy
  obtain ⟨a, _, ha⟩ := hy
  simp only [acC, List.mem_cons, List.not_mem_nil, or_false] at ha
  rcases ha with rfl | rfl | rfl | rfl <;> rfl
theorem rfs_mk {w : World} {q n c : Nat} {S : List Ac} {A : Option Addr} (hn : n = S.length) (hb : Blk w q 49 #[.slice A n c]) (hc : n ≤ c) (hm : c ≤ maxLen) (ho : Own w 56 4 (.slice A n c) n (acs S)) : RfS w q S := by
  subst hn
  exact ⟨A, c, hb, hc, hm, ho⟩

set_option maxRecDepth 100000 in
set_option maxHeartbeats 4000000 in
theorem refgive_any (q : Nat) (S : List Ac) (s : ByteArray) (x : Int) (w : World) (h : RfS w q S) (hI : Inv S) (hx : In64 x) :
    Calls Tryz.prog 23 #[.pointer (some ⟨q, 0, none⟩), .string s, .int .i64 x] w (DeedsR q (actE (fun a => giveE a x) S s.data.toList) (actS (fun a => giveE a x) (fun a => giveA a x) S s.data.toList) w) := by
  have HH := Lib.hid h
  have HI := Lib.hid hI
  have HAT := Lib.hid (refat_any q S s w h hI.len)
  have hL := hI.len
  have hX := hx
  unfold In64 at hX
  obtain ⟨hx1, hx2⟩ := hX
  have HX := Lib.hid hx
  obtain ⟨A, c, hb, h1, h2, ho⟩ := h
  have c0 := hb.cell 0
  have f0 := hb.frozen 0
  simp only [List.getElem?_toArray, List.getElem?_cons_zero] at c0
  have HB := Lib.hid hb
  have HO := Lib.hid ho
  unfold maxLen at h2
  clear hb ho hI hx
  go_enter Tryz.func23, Tryz.ntmps23
  go_wp2_with fail
  refine HAT.out.mono ?_
  rintro e w1 ⟨z, rfl, hz, rfl⟩
  rcases hz with ⟨hg, rfl⟩ | ⟨k, hk, rfl, hnm, hg⟩
  · obtain ⟨e1, e2⟩ := act_none (fun a => giveE a x) (fun a => giveA a x) hg
    have HE : Hid (DeedsR q (actE (fun a => giveE a x) S s.data.toList) (actS (fun a => giveE a x) (fun a => giveA a x) S s.data.toList) w (.returned (.int .i64 6)) w) := ⟨by rw [e1], by rw [e2]; exact HH.out, Fr.refl _ _⟩
    clear hg e1 e2
    go_wp2
    go_ret
    exact HE.out
  · obtain ⟨e1, e2⟩ := act_some (fun a => giveE a x) (fun a => giveA a x) hg
    have HE : Hid (∀ n S' W, giveE S[k] x = n → (if n = 0 then putA (giveA S[k] x) S else S) = S' → RfS W q S' → Fr (At1 q) w W → DeedsR q (actE (fun a => giveE a x) S s.data.toList) (actS (fun a => giveE a x) (fun a => giveA a x) S s.data.toList) w (.returned (.int .i64 n)) W) := fun n S' W hn hS' hR hF => ⟨by rw [e1, hn], by rw [e2, hn, hS']; exact hR, hF⟩
    have hok := HI.out.ok S[k] (List.getElem_mem hk)
    have HPS : Hid (∀ b : Ac, S[k].name = b.name → putA b S = S.set k b) := fun b hb => put_set S k hk b HI.out.rise hb
    have HCS : Hid (∀ b : Ac, b = { S[k] with hv := b.hv } → (acs S).set (k * 4 + 1) (.int .i64 b.hv) = acs (S.set k b)) := fun b hb => acs_set S k 1 hk b _ (by omega) (by rw [hb]; rfl)
    obtain ⟨ad, rfl, _, p0, p1, p2, p3⟩ := acs_at HO.out.rd k hk
    clear e1 e2 hg hnm
    have hgv : ∀ a : Ac, a = S[k] → giveE a x = giveE S[k] x := fun a h => by rw [h]
    generalize S[k] = a at *
    obtain ⟨na, va, sa, la⟩ := a
    have HOK := Lib.hid hok
    unfold OkA In64 at hok
    simp only at hok p0 p1 p2 p3
    obtain ⟨⟨hok1, hok2⟩, ⟨hok3, hok4⟩, hok5, hok6⟩ := hok
    have HLS := Lib.hid (refless_any va x w (by unfold In64; omega) HX.out)
    clear hgv
    go_wp2_with fail
    refine HLS.out.mono ?_
    rintro e w2 ⟨rfl, hb2⟩
    have hf2 : Fr No w w2 := Fr.of_below hb2 _
    have c2 := hf2.cell_some c0 (fun h => h)
    have r0 := hf2.cell_some p0 (fun h => h)
    have r1 := hf2.cell_some p1 (fun h => h)
    have r2 := hf2.cell_some p2 (fun h => h)
    have r3 := hf2.cell_some p3 (fun h => h)
    have HF2 := Lib.hid hf2
    have HH2 := Lib.hid (HH.out.no hf2)
    clear p0 p1 p2 p3 hf2 hb2
    by_cases hin : In64 (va - x)
    · rw [two64_in hin]
      have HIN := Lib.hid hin
      unfold In64 at hin
      by_cases hb9 : 0 < x ∧ freeB ⟨na, va, sa, la⟩ x = false
      · have HG : Hid (giveE ⟨na, va, sa, la⟩ x = 9) := by show giveE _ _ = 9; unfold giveE; rw [if_pos HIN.out, if_pos hb9]
        have HFE := reffree_any ⟨na, va, sa, la⟩ x w2 HOK.out ⟨hb9.1, hx2⟩
        rw [hb9.2] at HFE
        have HFR := Lib.hid HFE
        have hx0 : 0 < x := hb9.1
        clear hb9 HFE
        go_wp2_with fail
        refine HFR.out.mono ?_
        rintro e w3 ⟨rfl, hf3⟩
        have HF3 := Lib.hid hf3
        clear hf3
        go_wp2
        go_ret
        exact HE.out 9 S _ HG.out rfl (HH2.out.no HF3.out) ((HF2.out.trans HF3.out).mono fun _ _ h => False.elim h)
      · have HG : Hid (giveE ⟨na, va, sa, la⟩ x = 0) := by show giveE _ _ = 0; unfold giveE; rw [if_pos HIN.out, if_neg hb9]
        have HGA : Hid (putA (giveA ⟨na, va, sa, la⟩ x) S = S.set k ⟨na, va - x, sa, la⟩ ∧ (acs S).set (k * 4 + 1) (.int .i64 (va - x)) = acs (S.set k ⟨na, va - x, sa, la⟩)) := by
          refine ⟨?_, HCS.out ⟨na, va - x, sa, la⟩ rfl⟩
          rw [show giveA ⟨na, va, sa, la⟩ x = ⟨na, va - x, sa, la⟩ by unfold giveA; rw [if_pos HG.out]]
          exact HPS.out ⟨na, va - x, sa, la⟩ rfl
        by_cases hx0 : 0 < x
        · have hfree : freeB ⟨na, va, sa, la⟩ x = true := by
            cases hf : freeB ⟨na, va, sa, la⟩ x
            · exact absurd ⟨hx0, hf⟩ hb9
            · rfl
          have HFE := reffree_any ⟨na, va, sa, la⟩ x w2 HOK.out ⟨hx0, hx2⟩
          rw [hfree] at HFE
          have HFR := Lib.hid HFE
          clear hb9 HFE hfree
          go_upto_region 9 with (go_at_call 46; (with_reducible refine HFR.out.mono ?_); rintro e w3 ⟨rfl, hf3⟩)
          have HFW := Lib.hid (HF2.out.trans hf3)
          clear hf3
          have hbW := HB.out.fr HFW.out (fun h => h)
          have hrd := HO.out.rd.fr (by omega) HFW.out (fun _ _ _ h => h)
          have k0 := hbW.cell 0
          simp only [List.getElem?_toArray, List.getElem?_cons_zero] at k0
          have HBW := Lib.hid hbW
          have HRD := Lib.hid hrd
          have hlt := HFW.out.size
          clear hbW hrd c0 f0 c2 r0 r1 r2 r3
          go_wp2_with (at_builtin; refine wpList_app _ rfl (.const (.slice none 0 0)) (.tmp 49) 46 46 rfl elA (Own.nil _ _ _) rfl (Src.of_rd HRD.out (acs_ones S) Tryz.underlying46) rfl (by unfold maxLen; omega) (by omega) ?_; intro v4 w4 hown4 hfr4 hnew4; rw [Nat.zero_add, List.nil_append] at hown4; obtain ⟨g, c4, cur4, rfl, hg4, hc4, hm4, _, _⟩ := hown4.formPos (by omega); have hf4 := fr_at_none (show Fr (AtO none) _ w4 from hfr4); have hb4 := HBW.out.fr hf4 (fun h => h); have k4 := hb4.cell 0; have z4 := hb4.frozen 0; simp only [List.getElem?_toArray, List.getElem?_cons_zero] at k4; obtain ⟨hown6, ⟨y6, hy6⟩, hz6⟩ := own_set (hown4.setCell (p := ⟨q, 0, none⟩) (hown4.ne_ hb4 (by decide)) (.slice (some ⟨g, 0, none⟩) S.length c4)) (k * 4 + 1) (by omega) (by omega) (.int .i64 (va - x)); have HO6 := Lib.hid hown6; have hqg : q ≠ g := fun h => hown4.ne_ hb4 (by decide) (by rw [h]; rfl); have HF4 := Lib.hid hf4; have HB4 := Lib.hid hb4; have HN4 := Lib.hid hnew4; clear hown6 hown4 hfr4 hf4 hb4 hnew4 hg4)
          go_ret
          have hgn : w.heap.size ≤ g := by
            rcases HN4.out with h | h
            · cases h
            · have h' : some g = some _ := h
              injection h' with h'
              omega
          have hf6 : Fr (At1 q) w (w4.setCell ⟨q, 0, none⟩ (.slice (some ⟨g, 0, none⟩) S.length c4)) := Fr.setCell (S := At1 q) (p := ⟨q, 0, none⟩) ((HFW.out.trans HF4.out).mono fun _ _ h => False.elim h) (fun _ => rfl) _
          refine HE.out 0 (S.set k ⟨na, va - x, sa, la⟩) _ HG.out HGA.out.1 (rfs_mk (by simp) ((HB4.out.set_ 0 _).far hqg _) hc4 hm4 ?_) (Fr.setCell (S := At1 q) (p := ⟨g, k * 4 + 1, none⟩) hf6 (fun h => absurd h (by show ¬ g < _; omega)) _)
          rw [← HGA.out.2]
          exact HO6.out
        · go_upto_region 9 with (fail)
          have HFW := HF2
          have hbW := HB.out.fr HFW.out (fun h => h)
          have hrd := HO.out.rd.fr (by omega) HFW.out (fun _ _ _ h => h)
          have k0 := hbW.cell 0
          simp only [List.getElem?_toArray, List.getElem?_cons_zero] at k0
          have HBW := Lib.hid hbW
          have HRD := Lib.hid hrd
          have hlt := HFW.out.size
          clear hbW hrd c0 f0 c2 r0 r1 r2 r3
          go_wp2_with (at_builtin; refine wpList_app _ rfl (.const (.slice none 0 0)) (.tmp 49) 46 46 rfl elA (Own.nil _ _ _) rfl (Src.of_rd HRD.out (acs_ones S) Tryz.underlying46) rfl (by unfold maxLen; omega) (by omega) ?_; intro v4 w4 hown4 hfr4 hnew4; rw [Nat.zero_add, List.nil_append] at hown4; obtain ⟨g, c4, cur4, rfl, hg4, hc4, hm4, _, _⟩ := hown4.formPos (by omega); have hf4 := fr_at_none (show Fr (AtO none) _ w4 from hfr4); have hb4 := HBW.out.fr hf4 (fun h => h); have k4 := hb4.cell 0; have z4 := hb4.frozen 0; simp only [List.getElem?_toArray, List.getElem?_cons_zero] at k4; obtain ⟨hown6, ⟨y6, hy6⟩, hz6⟩ := own_set (hown4.setCell (p := ⟨q, 0, none⟩) (hown4.ne_ hb4 (by decide)) (.slice (some ⟨g, 0, none⟩) S.length c4)) (k * 4 + 1) (by omega) (by omega) (.int .i64 (va - x)); have HO6 := Lib.hid hown6; have hqg : q ≠ g := fun h => hown4.ne_ hb4 (by decide) (by rw [h]; rfl); have HF4 := Lib.hid hf4; have HB4 := Lib.hid hb4; have HN4 := Lib.hid hnew4; clear hown6 hown4 hfr4 hf4 hb4 hnew4 hg4)
          go_ret
          have hgn : w.heap.size ≤ g := by
            rcases HN4.out with h | h
            · cases h
            · have h' : some g = some _ := h
              injection h' with h'
              omega
          have hf6 : Fr (At1 q) w (w4.setCell ⟨q, 0, none⟩ (.slice (some ⟨g, 0, none⟩) S.length c4)) := Fr.setCell (S := At1 q) (p := ⟨q, 0, none⟩) ((HFW.out.trans HF4.out).mono fun _ _ h => False.elim h) (fun _ => rfl) _
          refine HE.out 0 (S.set k ⟨na, va - x, sa, la⟩) _ HG.out HGA.out.1 (rfs_mk (by simp) ((HB4.out.set_ 0 _).far hqg _) hc4 hm4 ?_) (Fr.setCell (S := At1 q) (p := ⟨g, k * 4 + 1, none⟩) hf6 (fun h => absurd h (by show ¬ g < _; omega)) _)
          rw [← HGA.out.2]
          exact HO6.out
    · have HG : Hid (giveE ⟨na, va, sa, la⟩ x = 2) := by show giveE _ _ = 2; unfold giveE; rw [if_neg hin]
      rw [two64_out hin]
      clear hin
      go_wp2
      go_ret
      exact HE.out 2 S _ HG.out rfl HH2.out (HF2.out.mono fun _ _ h => False.elim h)
end Go.Proofs.YtcjdkifojkjjeaaGreat
