/- The document's own chart: Aside. -/
import Derived.Test.YtjbeaoabhhaiiaaGreatChartJ2
namespace Go.Proofs.YtjbeaoabhhaiiaaGreat
open Go.RowKit Go.My Go.Maps
set_option linter.unusedSimpArgs false
set_option linter.unusedVariables false
attribute [local go_sem ↓] Go.wp_at_zero Go.wp_at_succ

set_option maxRecDepth 100000 in
set_option maxHeartbeats 4000000 in
theorem refaside_any (q : Nat) (S : List Ac) (s : ByteArray) (x : Int) (w : World) (h : RfS w q S) (hI : Inv S) (hx : In64 x) :
    Calls Tryz.prog 82 #[.pointer (some ⟨q, 0, none⟩), .string s, .int .i64 x] w (DeedsR q (actE (fun a => asideE a x) S s.data.toList) (actS (fun a => asideE a x) (fun a => asideA a x) S s.data.toList) w) := by
  have HH := Lib.hid h
  have HI := Lib.hid hI
  have HAT := Lib.hid (refat_any q S s w h hI.len)
  have hL := hI.len
  have hX := hx
  unfold In64 at hX
  obtain ⟨hx1, hx2⟩ := hX
  have HX := Lib.hid hx
  obtain ⟨A, c, hb, h1, h2, ho⟩ := h
  have c0 := hb.cell 0
  have f0 := hb.frozen 0
  simp only [List.getElem?_toArray, List.getElem?_cons_zero] at c0
  have HB := Lib.hid hb
  have HO := Lib.hid ho
  unfold maxLen at h2
  clear hb ho hI hx
  go_enter Tryz.func82, Tryz.ntmps82
  go_wp2_with fail
  refine HAT.out.mono ?_
  rintro e w1 ⟨z, rfl, hz, rfl⟩
  rcases hz with ⟨hg, rfl⟩ | ⟨k, hk, rfl, hnm, hg⟩
  · obtain ⟨e1, e2⟩ := act_none (fun a => asideE a x) (fun a => asideA a x) hg
    have HE : Hid (DeedsR q (actE (fun a => asideE a x) S s.data.toList) (actS (fun a => asideE a x) (fun a => asideA a x) S s.data.toList) w (.returned (.int .i64 6)) w) := ⟨by rw [e1], by rw [e2]; exact HH.out, Fr.refl _ _⟩
    clear hg e1 e2
    go_wp2
    go_ret
    exact HE.out
  · obtain ⟨e1, e2⟩ := act_some (fun a => asideE a x) (fun a => asideA a x) hg
    have HE : Hid (∀ n S' W, asideE S[k] x = n → (if n = 0 then putA (asideA S[k] x) S else S) = S' → RfS W q S' → Fr (At1 q) w W → DeedsR q (actE (fun a => asideE a x) S s.data.toList) (actS (fun a => asideE a x) (fun a => asideA a x) S s.data.toList) w (.returned (.int .i64 n)) W) := fun n S' W hn hS' hR hF => ⟨by rw [e1, hn], by rw [e2, hn, hS']; exact hR, hF⟩
    have hok := HI.out.ok S[k] (List.getElem_mem hk)
    have HPS : Hid (∀ b : Ac, S[k].name = b.name → putA b S = S.set k b) := fun b hb => put_set S k hk b HI.out.rise hb
    have HCS : Hid (∀ b : Ac, b = { S[k] with st := b.st } → (acs S).set (k * 4 + 2) (.int .i64 b.st) = acs (S.set k b)) := fun b hb => acs_set S k 2 hk b _ (by omega) (by rw [hb]; rfl)
    obtain ⟨ad, rfl, _, p0, p1, p2, p3⟩ := acs_at HO.out.rd k hk
    clear e1 e2 hg hnm
    have hgv : ∀ a : Ac, a = S[k] → asideE a x = asideE S[k] x := fun a h => by rw [h]
    generalize S[k] = a at *
    obtain ⟨na, va, sa, la⟩ := a
    have HOK := Lib.hid hok
    unfold OkA In64 at hok
    simp only at hok p0 p1 p2 p3
    obtain ⟨⟨hok1, hok2⟩, ⟨hok3, hok4⟩, hok5, hok6⟩ := hok
    have HLS := Lib.hid (refadd_any sa x w (by unfold In64; omega) HX.out)
    clear hgv
    go_wp2_with fail
    refine HLS.out.mono ?_
    rintro e w2 ⟨rfl, hb2⟩
    have hf2 : Fr No w w2 := Fr.of_below hb2 _
    have c2 := hf2.cell_some c0 (fun h => h)
    have r0 := hf2.cell_some p0 (fun h => h)
    have r1 := hf2.cell_some p1 (fun h => h)
    have r2 := hf2.cell_some p2 (fun h => h)
    have r3 := hf2.cell_some p3 (fun h => h)
    have HF2 := Lib.hid hf2
    have HH2 := Lib.hid (HH.out.no hf2)
    clear p0 p1 p2 p3 hf2 hb2
    by_cases hin : In64 (sa + x)
    · rw [two64_in hin]
      have HIN := Lib.hid hin
      unfold In64 at hin
      by_cases hb9 : 0 < x ∧ freeB ⟨na, va, sa, la⟩ x = false
      · have HG : Hid (asideE ⟨na, va, sa, la⟩ x = 9) := by show asideE _ _ = 9; unfold asideE; rw [if_pos HIN.out, if_pos hb9]
        have HFE := reffree_any ⟨na, va, sa, la⟩ x w2 HOK.out ⟨hb9.1, hx2⟩
        rw [hb9.2] at HFE
        have HFR := Lib.hid HFE
        have hx0 : 0 < x := hb9.1
        clear hb9 HFE
        go_wp2_with fail
        refine HFR.out.mono ?_
        rintro e w3 ⟨rfl, hf3⟩
        have HF3 := Lib.hid hf3
        clear hf3
        go_wp2
        go_ret
        exact HE.out 9 S _ HG.out rfl (HH2.out.no HF3.out) ((HF2.out.trans HF3.out).mono fun _ _ h => False.elim h)
      · by_cases hneg : sa + x < 0
        · have HG : Hid (asideE ⟨na, va, sa, la⟩ x = 13) := by show asideE _ _ = 13; unfold asideE; rw [if_pos HIN.out, if_neg hb9, if_pos hneg]
          have hx0 : ¬ 0 < x := by omega
          clear hb9
          go_wp2
          go_ret
          exact HE.out 13 S _ HG.out rfl HH2.out (HF2.out.mono fun _ _ h => False.elim h)
        · have HG : Hid (asideE ⟨na, va, sa, la⟩ x = 0) := by show asideE _ _ = 0; unfold asideE; rw [if_pos HIN.out, if_neg hb9, if_neg hneg]
          have HGA : Hid (putA (asideA ⟨na, va, sa, la⟩ x) S = S.set k ⟨na, va, sa + x, la⟩ ∧ (acs S).set (k * 4 + 2) (.int .i64 (sa + x)) = acs (S.set k ⟨na, va, sa + x, la⟩)) := by
            refine ⟨?_, HCS.out ⟨na, va, sa + x, la⟩ rfl⟩
            rw [show asideA ⟨na, va, sa, la⟩ x = ⟨na, va, sa + x, la⟩ by unfold asideA; rw [if_pos HG.out]]
            exact HPS.out ⟨na, va, sa + x, la⟩ rfl
          by_cases hx0 : 0 < x
          · have hfree : freeB ⟨na, va, sa, la⟩ x = true := by
              cases hf : freeB ⟨na, va, sa, la⟩ x
              · exact absurd ⟨hx0, hf⟩ hb9
              · rfl
            have HFE := reffree_any ⟨na, va, sa, la⟩ x w2 HOK.out ⟨hx0, hx2⟩
            rw [hfree] at HFE
            have HFR := Lib.hid HFE
            clear hb9 HFE hfree
            go_upto_region 11 with (go_at_call 127; (with_reducible refine HFR.out.mono ?_); rintro e w3 ⟨rfl, hf3⟩)
            have HFW := Lib.hid (HF2.out.trans hf3)
            clear hf3
            have hbW := HB.out.fr HFW.out (fun h => h)
            have hrd := HO.out.rd.fr (by omega) HFW.out (fun _ _ _ h => h)
            have k0 := hbW.cell 0
            simp only [List.getElem?_toArray, List.getElem?_cons_zero] at k0
            have HBW := Lib.hid hbW
            have HRD := Lib.hid hrd
            have hlt := HFW.out.size
            clear hbW hrd c0 f0 c2 r0 r1 r2 r3
            go_wp2_with (at_builtin; refine wpList_app _ rfl (.const (.slice none 0 0)) (.tmp 51) 77 77 rfl elA (Own.nil _ _ _) rfl (Src.of_rd HRD.out (acs_ones S) Tryz.underlying77) rfl (by unfold maxLen; omega) (by omega) ?_; intro v4 w4 hown4 hfr4 hnew4; rw [Nat.zero_add, List.nil_append] at hown4; obtain ⟨g, c4, cur4, rfl, hg4, hc4, hm4, _, _⟩ := hown4.formPos (by omega); have hf4 := fr_at_none (show Fr (AtO none) _ w4 from hfr4); have hb4 := HBW.out.fr hf4 (fun h => h); have k4 := hb4.cell 0; have z4 := hb4.frozen 0; simp only [List.getElem?_toArray, List.getElem?_cons_zero] at k4; obtain ⟨hown6, ⟨y6, hy6⟩, hz6⟩ := own_set (hown4.setCell (p := ⟨q, 0, none⟩) (hown4.ne_ hb4 (by decide)) (.slice (some ⟨g, 0, none⟩) S.length c4)) (k * 4 + 2) (by omega) (by omega) (.int .i64 (sa + x)); have HO6 := Lib.hid hown6; have hqg : q ≠ g := fun h => hown4.ne_ hb4 (by decide) (by rw [h]; rfl); have HF4 := Lib.hid hf4; have HB4 := Lib.hid hb4; have HN4 := Lib.hid hnew4; clear hown6 hown4 hfr4 hf4 hb4 hnew4 hg4)
            go_ret
            have hgn : w.heap.size ≤ g := by
              rcases HN4.out with h | h
              · cases h
              · have h' : some g = some _ := h
                injection h' with h'
                omega
            have hf6 : Fr (At1 q) w (w4.setCell ⟨q, 0, none⟩ (.slice (some ⟨g, 0, none⟩) S.length c4)) := Fr.setCell (S := At1 q) (p := ⟨q, 0, none⟩) ((HFW.out.trans HF4.out).mono fun _ _ h => False.elim h) (fun _ => rfl) _
            refine HE.out 0 (S.set k ⟨na, va, sa + x, la⟩) _ HG.out HGA.out.1 (rfs_mk (by simp) ((HB4.out.set_ 0 _).far hqg _) hc4 hm4 ?_) (Fr.setCell (S := At1 q) (p := ⟨g, k * 4 + 2, none⟩) hf6 (fun h => absurd h (by show ¬ g < _; omega)) _)
            rw [← HGA.out.2]
            exact HO6.out
          · go_upto_region 11 with (fail)
            have HFW := HF2
            have hbW := HB.out.fr HFW.out (fun h => h)
            have hrd := HO.out.rd.fr (by omega) HFW.out (fun _ _ _ h => h)
            have k0 := hbW.cell 0
            simp only [List.getElem?_toArray, List.getElem?_cons_zero] at k0
            have HBW := Lib.hid hbW
            have HRD := Lib.hid hrd
            have hlt := HFW.out.size
            clear hbW hrd c0 f0 c2 r0 r1 r2 r3
            go_wp2_with (at_builtin; refine wpList_app _ rfl (.const (.slice none 0 0)) (.tmp 51) 77 77 rfl elA (Own.nil _ _ _) rfl (Src.of_rd HRD.out (acs_ones S) Tryz.underlying77) rfl (by unfold maxLen; omega) (by omega) ?_; intro v4 w4 hown4 hfr4 hnew4; rw [Nat.zero_add, List.nil_append] at hown4; obtain ⟨g, c4, cur4, rfl, hg4, hc4, hm4, _, _⟩ := hown4.formPos (by omega); have hf4 := fr_at_none (show Fr (AtO none) _ w4 from hfr4); have hb4 := HBW.out.fr hf4 (fun h => h); have k4 := hb4.cell 0; have z4 := hb4.frozen 0; simp only [List.getElem?_toArray, List.getElem?_cons_zero] at k4; obtain ⟨hown6, ⟨y6, hy6⟩, hz6⟩ := own_set (hown4.setCell (p := ⟨q, 0, none⟩) (hown4.ne_ hb4 (by decide)) (.slice (some ⟨g, 0, none⟩) S.length c4)) (k * 4 + 2) (by omega) (by omega) (.int .i64 (sa + x)); have HO6 := Lib.hid hown6; have hqg : q ≠ g := fun h => hown4.ne_ hb4 (by decide) (by rw [h]; rfl); have HF4 := Lib.hid hf4; have HB4 := Lib.hid hb4; have HN4 := Lib.hid hnew4; clear hown6 hown4 hfr4 hf4 hb4 hnew4 hg4)
            go_ret
            have hgn : w.heap.size ≤ g := by
              rcases HN4.out with h | h
              · cases h
              · have h' : some g = some _ := h
                injection h' with h'
                omega
            have hf6 : Fr (At1 q) w (w4.setCell ⟨q, 0, none⟩ (.slice (some ⟨g, 0, none⟩) S.length c4)) := Fr.setCell (S := At1 q) (p := ⟨q, 0, none⟩) ((HFW.out.trans HF4.out).mono fun _ _ h => False.elim h) (fun _ => rfl) _
            refine HE.out 0 (S.set k ⟨na, va, sa + x, la⟩) _ HG.out HGA.out.1 (rfs_mk (by simp) ((HB4.out.set_ 0 _).far hqg _) hc4 hm4 ?_) (Fr.setCell (S := At1 q) (p := ⟨g, k * 4 + 2, none⟩) hf6 (fun h => absurd h (by show ¬ g < _; omega)) _)
            rw [← HGA.out.2]
            exact HO6.out
    · have HG : Hid (asideE ⟨na, va, sa, la⟩ x = 2) := by show asideE _ _ = 2; unfold asideE; rw [if_neg hin]
      rw [two64_out hin]
      clear hin
      go_wp2
      go_ret
      exact HE.out 2 S _ HG.out rfl HH2.out (HF2.out.mono fun _ _ h => False.elim h)
end Go.Proofs.YtjbeaoabhhaiiaaGreat
