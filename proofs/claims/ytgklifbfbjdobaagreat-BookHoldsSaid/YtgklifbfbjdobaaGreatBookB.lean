/- BookHolds' walk. -/
import Derived.Test.YtgklifbfbjdobaaGreatBookA
import Derived.Test.YtgklifbfbjdobaaGreatBookMath4
namespace Go.Proofs.YtgklifbfbjdobaaGreat
open Go.RowKit Go.My Go.Maps Go.BigFrame
set_option linter.unusedSimpArgs false
set_option linter.unusedVariables false
attribute [local go_sem ↓] Go.wp_at_zero Go.wp_at_succ

theorem size_set4 (w : World) (g : Nat) (a b c d : Value) : ((((w.setCell ⟨g, 0, none⟩ a).setCell ⟨g, 1, none⟩ b).setCell ⟨g, 2, none⟩ c).setCell ⟨g, 3, none⟩ d).heap.size = w.heap.size := by simp [World.setCell]
/-- both releases: what they were told, and the book -/
def BhEnd (q : Pl) (b : Bk) (hv st : Int) (w8 : World) (a12 a13 : Value) (W : World) : Prop :=
  ∃ g12 g13, a12 = .pointer (some ⟨g12, 0, none⟩) ∧ a13 = .pointer (some ⟨g13, 0, none⟩) ∧ Blk W g12 29 #[.int .i64 0, .int .i64 hv, .int .i64 st, .int .i64 0] ∧ Blk W g13 29 #[.int .i64 6, .int .i64 0, .int .i64 0, .int .i64 0] ∧ BkS W q b ∧ Fr q.wr w8 W
/-- Do of a release -/
theorem dofree_any (q : Pl) (b : Bk) (a : ByteArray) (R : Rp) (B : Bk) (W : World) (h : BkS W q b) (ha : a.size ≤ maxLen) (hR : doR b (freeOd a 500) = R) (hB : doB b (freeOd a 500) = B) :
    Calls Tryz.prog 12 #[.pointer (some ⟨q.p, 0, none⟩), .agg #[.int .i64 0, .int .i64 501, .int .i64 5, .string a, .string ⟨#[]⟩, .int .i64 0, .slice none 0 0, .int .i64 0, .int .i64 500, .string ⟨#[]⟩]] W fun e w' => e = .returned (.agg #[.int .i64 R.err, .int .i64 R.hv, .int .i64 R.st, .int .i64 R.num]) ∧ BkS w' q B ∧ Fr q.wr W w' := by
  have ho : (freeOd a 500).ok := by
    unfold freeOd Od.ok In64
    refine ⟨by simp, by simp, by simp, ha, ?_, by simp, by simp, by simp, ?_⟩ <;> (show (⟨#[]⟩ : ByteArray).size ≤ maxLen; decide)
  have h1 := do_any (fun _ => False) q b (freeOd a 500) (.slice none 0 0) W h ho (LgS_nil _ _) (fun _ h => False.elim h)
  rw [hR, hB] at h1
  exact h1
set_option maxRecDepth 100000 in
set_option maxHeartbeats 8000000 in
theorem bookHolds_walk (A : Option Addr) (c : Nat) (l : List Od) (acct : ByteArray) (sum : Int) (w : World) (hl : OdsS w w (Lt w.heap.size) A l) (hlc : l.length ≤ c) (hcm : c ≤ maxLen) (hac : acct.size ≤ maxLen) (hsm : -9223372036854775808 ≤ sum ∧ sum ≤ 9223372036854775807) :
    Calls Tryz.prog 7 #[.slice A l.length c, .string acct, .int .i64 sum] w (RetTrue w) := by
  have HFEW : Hid (∀ W, Below w.heap.size w W → Calls Tryz.prog 10 #[.slice A l.length c, .int .i64 60] W (FewRet w W (fewO l 60))) := fun W hW =>
    few9_any w W _ A c l 60 (hl.below hW (fun _ h => h)) hlc hcm (by omega)
  have HA := Lib.hid (fun W => ask9_any 500 3 acct sum W)
  have hbk := fold_inv bki0 (fewO l 60) (fun o ho => by
    unfold fewO at ho
    obtain ⟨o', h1, rfl⟩ := List.mem_map.1 ho
    exact hl.ok o' (List.mem_of_mem_take h1))
  have HCS := Lib.hid (hold_case hbk acct sum hsm)
  have HO1 := Lib.hid (askOd_ok 500 3 acct sum (by unfold In64; omega) (by unfold In64; omega) hac hsm)
  have HLN : Hid ((fewO l 60).length ≤ 1000) := by show _ ≤ _; rw [fewO_length]; omega
  have HAC := Lib.hid hac
  clear hl hlc hcm hac hbk
  go_enter Tryz.func7, Tryz.ntmps7
  go_wp2_with fail
  (with_reducible refine (lives9 _).mono ?_)
  rintro e w1 ⟨rfl, hb1⟩
  go_wp2_with fail
  (with_reducible refine (HFEW.out _ hb1).mono ?_)
  rintro e w2 ⟨A2, c2, rfl, ho2, hl2, hc2, hf2⟩
  have HW2 : Hid (Below w.heap.size w w2) := below_fr_no hb1 hf2 hb1.size
  have HO := Lib.hid ho2
  clear ho2 hf2 hb1 HFEW
  go_wp2_with fail
  (with_reducible refine (fold_any w w2 _ A2 c2 _ HO.out HW2.out HLN.out).mono ?_)
  rintro e w3 ⟨A3, c3, q, rfl, -, hb3, hf3, hq3, -, -⟩
  have HW3 : Hid (Below w.heap.size w w3) := below_fr_no HW2.out hf3 HW2.out.size
  have HQ : Hid (∀ i, Pl.all q i → w.heap.size ≤ i) := fun i hi => by have := hq3 i hi; have := HW2.out.size; omega
  have HB3 := Lib.hid hb3
  clear hb3 hf3 hq3 HO HLN
  generalize foldB bk0 (fewO l 60) = b at *
  go_wp2_with fail
  (with_reducible refine (bcopy_any q b _ HB3.out).mono ?_)
  rintro e w4 ⟨qc, rfl, hc4, hf4, hqc⟩
  have HB4 := Lib.hid (HB3.out.no hf4)
  have HC4 := Lib.hid hc4
  have HAP : Hid (∀ i, qc.all i → ¬ q.wr i) := fun i hi h => by have := hqc i hi; have := HB3.out.lt i (Pl.wr_all h); omega
  have HW4 : Hid (Below w.heap.size w w4) := below_fr_no HW3.out hf4 HW3.out.size
  clear hf4 hqc hc4
  go_wp2_with fail
  (with_reducible refine (HA.out _).mono ?_)
  rintro e w5 ⟨rfl, hf5⟩
  have HB5 := Lib.hid (HB4.out.no hf5)
  have HC5 := Lib.hid (HC4.out.no hf5)
  have HW5 : Hid (Below w.heap.size w w5) := below_fr_no HW4.out hf5 HW4.out.size
  clear hf5 HB3 HB4 HC4 HA
  rcases HCS.out with ⟨R, hR, hre, hB⟩ | ⟨hv, st, B, hR, hB, h0, h1, h2, h3, k1, k2, k3, k4⟩
  · obtain ⟨re, rh, rs, rn⟩ := R
    have HR := Lib.hid hR
    have HBB := Lib.hid hB
    have hz : (re != 0) = true := by rw [bne_iff_ne]; exact hre
    clear hR hB hre HCS
    go_wp2_with fail
    (with_reducible refine (doask_any q b 500 3 acct sum ⟨re, rh, rs, rn⟩ b w5 HB5.out HO1.out HR.out HBB.out).mono ?_)
    rintro e w6 ⟨rfl, hb6, hf6⟩
    have HW6 : Hid (Below w.heap.size w w6) := below_fr HW5.out hf6 HW5.out.size (fun k hk => by have := HQ.out k (Pl.wr_all hk); omega)
    have HSM := Lib.hid (fun W (h : Fr No w6 W) => bsame_any qc q b b W ((HC5.out.fr hf6 (fun i hi => HAP.out i hi)).no h) (hb6.no h))
    rw [sameBk_refl] at HSM
    clear hb6 hf6
    go_wp2_with fail
    (with_reducible refine (HSM.out _ ((Fr.refl _ _).alloc _)).mono ?_)
    rintro e w7 ⟨rfl, hf7⟩
    have hf67 : Fr No w6 w7 := ((Fr.refl _ _).alloc _).trans hf7
    go_wp2
    go_ret
    exact ⟨rfl, below_fr_no HW6.out hf67 HW6.out.size⟩
  · have HR := Lib.hid hR
    have HBB := Lib.hid hB
    have HK1 := Lib.hid k1
    have HK2 := Lib.hid k2
    have HK3 := Lib.hid k3
    have HK4 := Lib.hid k4
    clear hR hB k1 k2 k3 k4 HCS
    go_wp2_with fail
    (with_reducible refine (doask_any q b 500 3 acct sum ⟨0, hv, st + sum, 500⟩ B w5 HB5.out HO1.out HR.out HBB.out).mono ?_)
    rintro e w6 ⟨rfl, hb6, hf6⟩
    have HW6 : Hid (Below w.heap.size w w6) := below_fr HW5.out hf6 HW5.out.size (fun k hk => by have := HQ.out k (Pl.wr_all hk); omega)
    have HC6 := Lib.hid (HC5.out.fr hf6 (fun i hi => HAP.out i hi))
    have HB6 := Lib.hid hb6
    clear hb6 hf6
    have hr6 := Blk.new w6 29 #[.int .i64 0, .int .i64 hv, .int .i64 (st + sum), .int .i64 500]
    have HR6 := Lib.hid hr6
    have x3 := hr6.cell 3
    simp only [List.getElem?_toArray, List.getElem?_cons_zero, List.getElem?_cons_succ] at x3
    clear hr6
    go_upto_region 9 with (fail)
    have hf8 : Fr No w6 ((w6.alloc (.cells #[.int .i64 0, .int .i64 hv, .int .i64 (st + sum), .int .i64 500] 29)).alloc (.cells #[.int .i64 0, .int .i64 501, .int .i64 5, .string acct, .string ⟨#[]⟩, .int .i64 0, .slice none 0 0, .int .i64 0, .int .i64 500, .string ⟨#[]⟩] 35)) := ((Fr.refl _ _).alloc _).alloc _
    have hbf : Blk ((w6.alloc (.cells #[.int .i64 0, .int .i64 hv, .int .i64 (st + sum), .int .i64 500] 29)).alloc (.cells #[.int .i64 0, .int .i64 501, .int .i64 5, .string acct, .string ⟨#[]⟩, .int .i64 0, .slice none 0 0, .int .i64 0, .int .i64 500, .string ⟨#[]⟩] 35)) (w6.heap.size + 1) 35 #[.int .i64 0, .int .i64 501, .int .i64 5, .string acct, .string ⟨#[]⟩, .int .i64 0, .slice none 0 0, .int .i64 0, .int .i64 500, .string ⟨#[]⟩] := by
      have h := Blk.new (w6.alloc (.cells #[.int .i64 0, .int .i64 hv, .int .i64 (st + sum), .int .i64 500] 29)) 35 #[.int .i64 0, .int .i64 501, .int .i64 5, .string acct, .string ⟨#[]⟩, .int .i64 0, .slice none 0 0, .int .i64 0, .int .i64 500, .string ⟨#[]⟩]
      rw [World.size_alloc] at h
      exact h
    have HR8 := Lib.hid (HR6.out.alloc (.cells #[.int .i64 0, .int .i64 501, .int .i64 5, .string acct, .string ⟨#[]⟩, .int .i64 0, .slice none 0 0, .int .i64 0, .int .i64 500, .string ⟨#[]⟩] 35))
    have HGF := Lib.hid (show w6.heap.size ≤ w6.heap.size + 1 ∧ w6.heap.size + 1 < _ ∧ w6.heap.size < _ from ⟨by omega, hbf.lt, HR8.out.lt⟩)
    have HLT6 := Lib.hid HB6.out.lt
    clear x3 HR6
    generalize (w6.alloc (.cells #[.int .i64 0, .int .i64 hv, .int .i64 (st + sum), .int .i64 500] 29)).alloc (.cells #[.int .i64 0, .int .i64 501, .int .i64 5, .string acct, .string ⟨#[]⟩, .int .i64 0, .slice none 0 0, .int .i64 0, .int .i64 500, .string ⟨#[]⟩] 35) = w8 at *
    generalize w6.heap.size + 1 = gf at *
    have HB8 := Lib.hid (HB6.out.no hf8)
    have HC8 := Lib.hid (HC6.out.no hf8)
    have HW8 : Hid (Below w.heap.size w w8) := below_fr_no HW6.out hf8 HW6.out.size
    generalize w6.heap.size = gr at *
    have HLT : Hid (∀ i, q.all i → i < w8.heap.size) := fun i hi => by have := HLT6.out i hi; have := HGF.out.2.2; omega
    have HFAR : Hid (∀ g, w8.heap.size ≤ g → ¬ q.wr g) := fun g hg h => by have := HLT.out g (Pl.wr_all h); omega
    have HX : Hid (∀ W, Fr q.wr w8 W → Fr q.wr w8 W ∧ W.cell? ⟨gf, 0, none⟩ = some (.int .i64 0) ∧ W.cell? ⟨gf, 1, none⟩ = some (.int .i64 501) ∧ W.cell? ⟨gf, 2, none⟩ = some (.int .i64 5) ∧ W.cell? ⟨gf, 3, none⟩ = some (.string acct) ∧ W.cell? ⟨gf, 4, none⟩ = some (.string ⟨#[]⟩) ∧ W.cell? ⟨gf, 5, none⟩ = some (.int .i64 0) ∧ W.cell? ⟨gf, 6, none⟩ = some (.slice none 0 0) ∧ W.cell? ⟨gf, 7, none⟩ = some (.int .i64 0) ∧ W.cell? ⟨gf, 8, none⟩ = some (.int .i64 500) ∧ W.cell? ⟨gf, 9, none⟩ = some (.string ⟨#[]⟩)) := fun W hW => by
      have h := hbf.fr hW (fun h => by have := HLT6.out gf (Pl.wr_all h); have := HGF.out.1; omega)
      exact ⟨hW, h.cell 0, h.cell 1, h.cell 2, h.cell 3, h.cell 4, h.cell 5, h.cell 6, h.cell 7, h.cell 8, h.cell 9⟩
    have HD1 := Lib.hid (fun W (h : BkS W q B) => dofree_any q B acct ⟨0, hv, st, 0⟩ b W h HAC.out HK1.out HK2.out)
    have HD2 := Lib.hid (fun W (h : BkS W q b) => dofree_any q b acct ⟨6, 0, 0, 0⟩ b W h HAC.out HK3.out HK4.out)
    have b0 := HB8.out
    have k0 : Fr q.wr w8 w8 := Fr.refl _ _
    clear hf8 hbf
    go_cut [12, 13] (fun a12 a13 wx => BhEnd q b hv st w8 a12 a13 wx)
    case first =>
      go_wp2
      refine wp_region_held_drew (S := fun W => Fr q.wr w8 W ∧ W.cell? ⟨gf, 0, none⟩ = some (.int .i64 0) ∧ W.cell? ⟨gf, 1, none⟩ = some (.int .i64 501) ∧ W.cell? ⟨gf, 2, none⟩ = some (.int .i64 5) ∧ W.cell? ⟨gf, 3, none⟩ = some (.string acct) ∧ W.cell? ⟨gf, 4, none⟩ = some (.string ⟨#[]⟩) ∧ W.cell? ⟨gf, 5, none⟩ = some (.int .i64 0) ∧ W.cell? ⟨gf, 6, none⟩ = some (.slice none 0 0) ∧ W.cell? ⟨gf, 7, none⟩ = some (.int .i64 0) ∧ W.cell? ⟨gf, 8, none⟩ = some (.int .i64 500) ∧ W.cell? ⟨gf, 9, none⟩ = some (.string ⟨#[]⟩)) (by kernel_rfl) ?_ (fun hH0 => ?_)
      · exact HX.out _ k0.drew
      refine wpAnyH_take (i := 0) (v := ?_) rfl (by kernel_rfl) (by kernel_rfl) (by kernel_rfl) (fun _ _ _ h => h) (Or.inl ⟨by rfl, ?_⟩) hH0 ?_
      rotate_left
      · (intro w hSw; (try dsimp only at hSw); go_simp; try with_reducible rfl)
      (try simp only [Act.put, List.getElem_toArray, List.getElem_cons_zero, List.getElem_cons_succ, List.setIfInBounds_toArray, List.set_cons_zero, List.set_cons_succ])
      refine wpAnyH_take (i := 1) (v := ?_) rfl (by kernel_rfl) (by kernel_rfl) (by kernel_rfl) (fun _ _ _ h => h) (Or.inl ⟨by rfl, ?_⟩) hH0 ?_
      rotate_left
      · (intro w hSw; (try dsimp only at hSw); go_simp; try with_reducible rfl)
      (try simp only [Act.put, List.getElem_toArray, List.getElem_cons_zero, List.getElem_cons_succ, List.setIfInBounds_toArray, List.set_cons_zero, List.set_cons_succ])
      refine wpAnyH_take (i := 3) (v := ?_) rfl (by kernel_rfl) (by kernel_rfl) (by kernel_rfl) (fun _ _ _ h => h) (Or.inl ⟨by rfl, ?_⟩) hH0 ?_
      rotate_left
      · (intro w hSw; (try dsimp only at hSw); go_simp; try with_reducible rfl)
      (try simp only [Act.put, List.getElem_toArray, List.getElem_cons_zero, List.getElem_cons_succ, List.setIfInBounds_toArray, List.set_cons_zero, List.set_cons_succ])
      refine wpAnyH_take (i := 4) (v := ?_) rfl (by kernel_rfl) (by kernel_rfl) (by kernel_rfl) (fun _ _ _ h => h) (Or.inl ⟨by rfl, ?_⟩) hH0 ?_
      rotate_left
      · (intro w hSw; (try dsimp only at hSw); go_simp; try with_reducible rfl)
      (try simp only [Act.put, List.getElem_toArray, List.getElem_cons_zero, List.getElem_cons_succ, List.setIfInBounds_toArray, List.set_cons_zero, List.set_cons_succ])
      refine wpAnyH_ready (rs := [2, 6, 7]) (by kernel_rfl) (by simp) ?_
      refine AllReadyH.cons rfl (fun K hK => ?_) ?_
      · go_simp
        have b_ : BkS (((w8)).drew) q B := b0.no ((Fr.refl _ _).drew)
        (with_reducible refine (HD1.out _ b_).mono ?_)
        rintro e u2 ⟨rfl, bb2, hg⟩
        have kw : Fr q.wr w8 (((w8)).drew) := (k0).drew
        have kb2 : Fr q.wr w8 u2 := Fr.trans kw hg
        clear b_ kw hg
        have hs2 : w8.heap.size ≤ u2.heap.size := (kb2).size
        refine hK.out _ _ ?_ (fun hH1 => ?_)
        · exact HX.out _ (kb2)
        clear hK K
        (try simp only [Act.put, List.getElem_toArray, List.getElem_cons_zero, List.getElem_cons_succ, List.setIfInBounds_toArray, List.set_cons_zero, List.set_cons_succ])
        refine wpAnyH_ready (rs := [5, 6, 7]) (by kernel_rfl) (by simp) ?_
        refine AllReadyH.cons rfl (fun K hK => ?_) ?_
        · go_simp
          have b_ : BkS ((u2)) q b := bb2.no (Fr.refl _ _)
          (with_reducible refine (HD2.out _ b_).mono ?_)
          rintro e u2_5 ⟨rfl, bb2_5, hg⟩
          have kw : Fr q.wr w8 ((u2)) := kb2
          have kb2_5 : Fr q.wr w8 u2_5 := Fr.trans kw hg
          clear b_ kw hg
          have hs2_5 : w8.heap.size ≤ u2_5.heap.size := (kb2_5).size
          refine hK.out _ _ ?_ (fun hH2 => ?_)
          · exact HX.out _ (kb2_5)
          clear hK K
          (try simp only [Act.put, List.getElem_toArray, List.getElem_cons_zero, List.getElem_cons_succ, List.setIfInBounds_toArray, List.set_cons_zero, List.set_cons_succ])
          refine wpAnyH_ready (rs := [6, 7]) (by kernel_rfl) (by simp) ?_
          refine AllReadyH.cons rfl (fun K hK => ?_) ?_
          · go_simp
            refine hK.out _ _ ?_ (fun hH3 => ?_)
            · exact HX.out _ ((kb2_5).alloc _)
            clear hK K
            (try simp only [Act.put, List.getElem_toArray, List.getElem_cons_zero, List.getElem_cons_succ, List.setIfInBounds_toArray, List.set_cons_zero, List.set_cons_succ])
            refine wpAnyH_ready (rs := [7]) (by kernel_rfl) (by simp) ?_
            refine AllReadyH.cons rfl (fun K hK => ?_) ?_
            · go_simp
              refine hK.out _ _ ?_ (fun hH4 => ?_)
              · exact HX.out _ (((kb2_5).alloc _).alloc _)
              clear hK K
              (try simp only [Act.put, List.getElem_toArray, List.getElem_cons_zero, List.getElem_cons_succ, List.setIfInBounds_toArray, List.set_cons_zero, List.set_cons_succ])
              refine wpAnyH_ready (rs := [8]) (by kernel_rfl) (by simp) ?_
              refine AllReadyH.cons rfl (fun K hK => ?_) ?_
              · go_simp
                have kk2_5_6_7_8 : Fr q.wr w8 ((((u2_5)).alloc (.cells #[.int .i64 0, .int .i64 hv, .int .i64 st, .int .i64 0] 29)).alloc (.cells #[.int .i64 0, .int .i64 0, .int .i64 0, .int .i64 0] 29)) := ((kb2_5).alloc _).alloc _
                refine hK.out _ _ ?_ (fun hH5 => ?_)
                · exact HX.out _ kk2_5_6_7_8
                clear hK K
                (try simp only [Act.put, List.getElem_toArray, List.getElem_cons_zero, List.getElem_cons_succ, List.setIfInBounds_toArray, List.set_cons_zero, List.set_cons_succ])
                refine wpAnyH_ready (rs := [9]) (by kernel_rfl) (by simp) ?_
                refine AllReadyH.cons rfl (fun K hK => ?_) ?_
                · go_simp
                  have kk2_5_6_7_8_9 : Fr q.wr w8 ((((u2_5)).alloc (.cells #[.int .i64 0, .int .i64 hv, .int .i64 st, .int .i64 0] 29)).alloc (.cells #[.int .i64 6, .int .i64 0, .int .i64 0, .int .i64 0] 29)) := ((kb2_5).alloc _).alloc _
                  refine hK.out _ _ ?_ (fun hH6 => ?_)
                  · exact HX.out _ kk2_5_6_7_8_9
                  clear hK K
                  (try simp only [Act.put, List.getElem_toArray, List.getElem_cons_zero, List.getElem_cons_succ, List.setIfInBounds_toArray, List.set_cons_zero, List.set_cons_succ])
                  refine wpAnyH_done (by kernel_rfl) ?_ _
                  have hend : BhEnd q b hv st w8 (.pointer (some ⟨u2_5.heap.size, 0, none⟩)) (.pointer (some ⟨u2_5.heap.size + 1, 0, none⟩)) ((((u2_5)).alloc (.cells #[.int .i64 0, .int .i64 hv, .int .i64 st, .int .i64 0] 29)).alloc (.cells #[.int .i64 6, .int .i64 0, .int .i64 0, .int .i64 0] 29)) := ⟨u2_5.heap.size, u2_5.heap.size + 1, rfl, rfl, (by have h := Blk.new ((u2_5)) 29 #[.int .i64 0, .int .i64 hv, .int .i64 st, .int .i64 0]; (try simp only [World.size_alloc, size_set4] at h); exact (h).alloc _), (by have h := Blk.new (((u2_5)).alloc (.cells #[.int .i64 0, .int .i64 hv, .int .i64 st, .int .i64 0] 29)) 29 #[.int .i64 6, .int .i64 0, .int .i64 0, .int .i64 0]; (try simp only [World.size_alloc, size_set4] at h); exact h), bb2_5.no (((Fr.refl _ _).alloc _).alloc _), kk2_5_6_7_8_9⟩
                  go_wp2
                  go_meet
                  exact hend
                exact AllReadyH.nil
              exact AllReadyH.nil
            exact AllReadyH.nil
          refine AllReadyH.cons rfl (fun K hK => ?_) ?_
          · go_simp
            refine hK.out _ _ ?_ (fun hH3 => ?_)
            · exact HX.out _ ((kb2_5).alloc _)
            clear hK K
            (try simp only [Act.put, List.getElem_toArray, List.getElem_cons_zero, List.getElem_cons_succ, List.setIfInBounds_toArray, List.set_cons_zero, List.set_cons_succ])
            refine wpAnyH_ready (rs := [6]) (by kernel_rfl) (by simp) ?_
            refine AllReadyH.cons rfl (fun K hK => ?_) ?_
            · go_simp
              refine hK.out _ _ ?_ (fun hH4 => ?_)
              · exact HX.out _ (((kb2_5).alloc _).alloc _)
              clear hK K
              (try simp only [Act.put, List.getElem_toArray, List.getElem_cons_zero, List.getElem_cons_succ, List.setIfInBounds_toArray, List.set_cons_zero, List.set_cons_succ])
              refine wpAnyH_ready (rs := [8]) (by kernel_rfl) (by simp) ?_
              refine AllReadyH.cons rfl (fun K hK => ?_) ?_
              · go_simp
                have kk2_5_7_6_8 : Fr q.wr w8 ((((u2_5)).alloc (.cells #[.int .i64 0, .int .i64 0, .int .i64 0, .int .i64 0] 29)).alloc (.cells #[.int .i64 0, .int .i64 hv, .int .i64 st, .int .i64 0] 29)) := ((kb2_5).alloc _).alloc _
                refine hK.out _ _ ?_ (fun hH5 => ?_)
                · exact HX.out _ kk2_5_7_6_8
                clear hK K
                (try simp only [Act.put, List.getElem_toArray, List.getElem_cons_zero, List.getElem_cons_succ, List.setIfInBounds_toArray, List.set_cons_zero, List.set_cons_succ])
                refine wpAnyH_ready (rs := [9]) (by kernel_rfl) (by simp) ?_
                refine AllReadyH.cons rfl (fun K hK => ?_) ?_
                · go_simp
                  have kk2_5_7_6_8_9 : Fr q.wr w8 ((((u2_5)).alloc (.cells #[.int .i64 6, .int .i64 0, .int .i64 0, .int .i64 0] 29)).alloc (.cells #[.int .i64 0, .int .i64 hv, .int .i64 st, .int .i64 0] 29)) := ((kb2_5).alloc _).alloc _
                  refine hK.out _ _ ?_ (fun hH6 => ?_)
                  · exact HX.out _ kk2_5_7_6_8_9
                  clear hK K
                  (try simp only [Act.put, List.getElem_toArray, List.getElem_cons_zero, List.getElem_cons_succ, List.setIfInBounds_toArray, List.set_cons_zero, List.set_cons_succ])
                  refine wpAnyH_done (by kernel_rfl) ?_ _
                  have hend : BhEnd q b hv st w8 (.pointer (some ⟨u2_5.heap.size + 1, 0, none⟩)) (.pointer (some ⟨u2_5.heap.size, 0, none⟩)) ((((u2_5)).alloc (.cells #[.int .i64 6, .int .i64 0, .int .i64 0, .int .i64 0] 29)).alloc (.cells #[.int .i64 0, .int .i64 hv, .int .i64 st, .int .i64 0] 29)) := ⟨u2_5.heap.size + 1, u2_5.heap.size, rfl, rfl, (by have h := Blk.new (((u2_5)).alloc (.cells #[.int .i64 6, .int .i64 0, .int .i64 0, .int .i64 0] 29)) 29 #[.int .i64 0, .int .i64 hv, .int .i64 st, .int .i64 0]; (try simp only [World.size_alloc, size_set4] at h); exact h), (by have h := Blk.new ((u2_5)) 29 #[.int .i64 6, .int .i64 0, .int .i64 0, .int .i64 0]; (try simp only [World.size_alloc, size_set4] at h); exact (h).alloc _), bb2_5.no (((Fr.refl _ _).alloc _).alloc _), kk2_5_7_6_8_9⟩
                  go_wp2
                  go_meet
                  exact hend
                exact AllReadyH.nil
              exact AllReadyH.nil
            exact AllReadyH.nil
          exact AllReadyH.nil
        refine AllReadyH.cons rfl (fun K hK => ?_) ?_
        · go_simp
          refine hK.out _ _ ?_ (fun hH2 => ?_)
          · exact HX.out _ ((kb2).alloc _)
          clear hK K
          (try simp only [Act.put, List.getElem_toArray, List.getElem_cons_zero, List.getElem_cons_succ, List.setIfInBounds_toArray, List.set_cons_zero, List.set_cons_succ])
          refine wpAnyH_ready (rs := [5, 7]) (by kernel_rfl) (by simp) ?_
          refine AllReadyH.cons rfl (fun K hK => ?_) ?_
          · go_simp
            have b_ : BkS (((u2)).alloc (.cells #[.int .i64 0, .int .i64 0, .int .i64 0, .int .i64 0] 29)) q b := bb2.no ((Fr.refl _ _).alloc _)
            (with_reducible refine (HD2.out _ b_).mono ?_)
            rintro e u2_6_5 ⟨rfl, bb2_6_5, hg⟩
            have kw : Fr q.wr w8 (((u2)).alloc (.cells #[.int .i64 0, .int .i64 0, .int .i64 0, .int .i64 0] 29)) := (kb2).alloc _
            have kb2_6_5 : Fr q.wr w8 u2_6_5 := Fr.trans kw hg
            have z62_6_5 : Blk u2_6_5 (u2.heap.size) 29 #[.int .i64 0, .int .i64 0, .int .i64 0, .int .i64 0] := by
              have h := Blk.new ((u2)) 29 #[.int .i64 0, .int .i64 0, .int .i64 0, .int .i64 0]
              exact (h).fr hg (HFAR.out _ (by have := (kb2).size; omega))
            clear b_ kw hg
            have hs2_6_5 : w8.heap.size ≤ u2_6_5.heap.size := (kb2_6_5).size
            have hl62_6_5 : u2.heap.size < u2_6_5.heap.size := z62_6_5.lt
            refine hK.out _ _ ?_ (fun hH3 => ?_)
            · exact HX.out _ (kb2_6_5)
            clear hK K
            (try simp only [Act.put, List.getElem_toArray, List.getElem_cons_zero, List.getElem_cons_succ, List.setIfInBounds_toArray, List.set_cons_zero, List.set_cons_succ])
            refine wpAnyH_ready (rs := [7]) (by kernel_rfl) (by simp) ?_
            refine AllReadyH.cons rfl (fun K hK => ?_) ?_
            · go_simp
              refine hK.out _ _ ?_ (fun hH4 => ?_)
              · exact HX.out _ ((kb2_6_5).alloc _)
              clear hK K
              (try simp only [Act.put, List.getElem_toArray, List.getElem_cons_zero, List.getElem_cons_succ, List.setIfInBounds_toArray, List.set_cons_zero, List.set_cons_succ])
              refine wpAnyH_ready (rs := [8]) (by kernel_rfl) (by simp) ?_
              refine AllReadyH.cons rfl (fun K hK => ?_) ?_
              · have c0 := z62_6_5.cell 0
                have f0 := z62_6_5.frozen 0
                have c1 := z62_6_5.cell 1
                have f1 := z62_6_5.frozen 1
                have c2 := z62_6_5.cell 2
                have f2 := z62_6_5.frozen 2
                have c3 := z62_6_5.cell 3
                have f3 := z62_6_5.frozen 3
                simp only [List.getElem?_toArray, List.getElem?_cons_zero, List.getElem?_cons_succ] at c0 c1 c2 c3
                go_simp
                have kb2_6_5_7_8 : Fr q.wr w8 ((((((u2_6_5).setCell ⟨u2.heap.size, 0, none⟩ (.int .i64 0)).setCell ⟨u2.heap.size, 1, none⟩ (.int .i64 hv)).setCell ⟨u2.heap.size, 2, none⟩ (.int .i64 st)).setCell ⟨u2.heap.size, 3, none⟩ (.int .i64 0))) := keep_set4 kb2_6_5 (by omega)
                have bb2_6_5_7_8 : BkS ((((((u2_6_5).setCell ⟨u2.heap.size, 0, none⟩ (.int .i64 0)).setCell ⟨u2.heap.size, 1, none⟩ (.int .i64 hv)).setCell ⟨u2.heap.size, 2, none⟩ (.int .i64 st)).setCell ⟨u2.heap.size, 3, none⟩ (.int .i64 0))) q b := bb2_6_5.fr (fr_set4 (u2_6_5) (u2.heap.size) (.int .i64 0) (.int .i64 hv) (.int .i64 st) (.int .i64 0)) (fun i hi e => by have h1 := HLT.out i hi; have : i = u2.heap.size := e; omega)
                have z62_6_5_7_8 : Blk ((((((u2_6_5).setCell ⟨u2.heap.size, 0, none⟩ (.int .i64 0)).setCell ⟨u2.heap.size, 1, none⟩ (.int .i64 hv)).setCell ⟨u2.heap.size, 2, none⟩ (.int .i64 st)).setCell ⟨u2.heap.size, 3, none⟩ (.int .i64 0))) (u2.heap.size) 29 #[.int .i64 0, .int .i64 hv, .int .i64 st, .int .i64 0] := blk_set4 z62_6_5 (.int .i64 0) (.int .i64 hv) (.int .i64 st) (.int .i64 0)
                have kk2_6_5_7_8 : Fr q.wr w8 (((((((u2_6_5).setCell ⟨u2.heap.size, 0, none⟩ (.int .i64 0)).setCell ⟨u2.heap.size, 1, none⟩ (.int .i64 hv)).setCell ⟨u2.heap.size, 2, none⟩ (.int .i64 st)).setCell ⟨u2.heap.size, 3, none⟩ (.int .i64 0))).alloc (.cells #[.int .i64 0, .int .i64 0, .int .i64 0, .int .i64 0] 29)) := (kb2_6_5_7_8).alloc _
                refine hK.out _ _ ?_ (fun hH5 => ?_)
                · exact HX.out _ kk2_6_5_7_8
                clear hK K
                (try simp only [Act.put, List.getElem_toArray, List.getElem_cons_zero, List.getElem_cons_succ, List.setIfInBounds_toArray, List.set_cons_zero, List.set_cons_succ])
                refine wpAnyH_ready (rs := [9]) (by kernel_rfl) (by simp) ?_
                refine AllReadyH.cons rfl (fun K hK => ?_) ?_
                · go_simp
                  have kk2_6_5_7_8_9 : Fr q.wr w8 (((((((u2_6_5).setCell ⟨u2.heap.size, 0, none⟩ (.int .i64 0)).setCell ⟨u2.heap.size, 1, none⟩ (.int .i64 hv)).setCell ⟨u2.heap.size, 2, none⟩ (.int .i64 st)).setCell ⟨u2.heap.size, 3, none⟩ (.int .i64 0))).alloc (.cells #[.int .i64 6, .int .i64 0, .int .i64 0, .int .i64 0] 29)) := (kb2_6_5_7_8).alloc _
                  refine hK.out _ _ ?_ (fun hH6 => ?_)
                  · exact HX.out _ kk2_6_5_7_8_9
                  clear hK K
                  (try simp only [Act.put, List.getElem_toArray, List.getElem_cons_zero, List.getElem_cons_succ, List.setIfInBounds_toArray, List.set_cons_zero, List.set_cons_succ])
                  refine wpAnyH_done (by kernel_rfl) ?_ _
                  have hend : BhEnd q b hv st w8 (.pointer (some ⟨u2.heap.size, 0, none⟩)) (.pointer (some ⟨u2_6_5.heap.size, 0, none⟩)) (((((((u2_6_5).setCell ⟨u2.heap.size, 0, none⟩ (.int .i64 0)).setCell ⟨u2.heap.size, 1, none⟩ (.int .i64 hv)).setCell ⟨u2.heap.size, 2, none⟩ (.int .i64 st)).setCell ⟨u2.heap.size, 3, none⟩ (.int .i64 0))).alloc (.cells #[.int .i64 6, .int .i64 0, .int .i64 0, .int .i64 0] 29)) := ⟨u2.heap.size, u2_6_5.heap.size, rfl, rfl, ((z62_6_5_7_8).alloc _), (by have h := Blk.new ((((((u2_6_5).setCell ⟨u2.heap.size, 0, none⟩ (.int .i64 0)).setCell ⟨u2.heap.size, 1, none⟩ (.int .i64 hv)).setCell ⟨u2.heap.size, 2, none⟩ (.int .i64 st)).setCell ⟨u2.heap.size, 3, none⟩ (.int .i64 0))) 29 #[.int .i64 6, .int .i64 0, .int .i64 0, .int .i64 0]; (try simp only [World.size_alloc, size_set4] at h); exact h), bb2_6_5_7_8.no ((Fr.refl _ _).alloc _), kk2_6_5_7_8_9⟩
                  go_wp2
                  go_meet
                  exact hend
                exact AllReadyH.nil
              exact AllReadyH.nil
            exact AllReadyH.nil
          refine AllReadyH.cons rfl (fun K hK => ?_) ?_
          · go_simp
            refine hK.out _ _ ?_ (fun hH3 => ?_)
            · exact HX.out _ (((kb2).alloc _).alloc _)
            clear hK K
            (try simp only [Act.put, List.getElem_toArray, List.getElem_cons_zero, List.getElem_cons_succ, List.setIfInBounds_toArray, List.set_cons_zero, List.set_cons_succ])
            refine wpAnyH_ready (rs := [5]) (by kernel_rfl) (by simp) ?_
            refine AllReadyH.cons rfl (fun K hK => ?_) ?_
            · go_simp
              have b_ : BkS ((((u2)).alloc (.cells #[.int .i64 0, .int .i64 0, .int .i64 0, .int .i64 0] 29)).alloc (.cells #[.int .i64 0, .int .i64 0, .int .i64 0, .int .i64 0] 29)) q b := bb2.no (((Fr.refl _ _).alloc _).alloc _)
              (with_reducible refine (HD2.out _ b_).mono ?_)
              rintro e u2_6_7_5 ⟨rfl, bb2_6_7_5, hg⟩
              have kw : Fr q.wr w8 ((((u2)).alloc (.cells #[.int .i64 0, .int .i64 0, .int .i64 0, .int .i64 0] 29)).alloc (.cells #[.int .i64 0, .int .i64 0, .int .i64 0, .int .i64 0] 29)) := ((kb2).alloc _).alloc _
              have kb2_6_7_5 : Fr q.wr w8 u2_6_7_5 := Fr.trans kw hg
              have z62_6_7_5 : Blk u2_6_7_5 (u2.heap.size) 29 #[.int .i64 0, .int .i64 0, .int .i64 0, .int .i64 0] := by
                have h := Blk.new ((u2)) 29 #[.int .i64 0, .int .i64 0, .int .i64 0, .int .i64 0]
                exact ((h).alloc _).fr hg (HFAR.out _ (by have := (kb2).size; omega))
              have z72_6_7_5 : Blk u2_6_7_5 (u2.heap.size + 1) 29 #[.int .i64 0, .int .i64 0, .int .i64 0, .int .i64 0] := by
                have h := Blk.new (((u2)).alloc (.cells #[.int .i64 0, .int .i64 0, .int .i64 0, .int .i64 0] 29)) 29 #[.int .i64 0, .int .i64 0, .int .i64 0, .int .i64 0]
                simp only [World.size_alloc] at h
                exact (h).fr hg (HFAR.out _ (by have := (kb2).size; omega))
              clear b_ kw hg
              have hs2_6_7_5 : w8.heap.size ≤ u2_6_7_5.heap.size := (kb2_6_7_5).size
              have hl62_6_7_5 : u2.heap.size < u2_6_7_5.heap.size := z62_6_7_5.lt
              have hl72_6_7_5 : u2.heap.size + 1 < u2_6_7_5.heap.size := z72_6_7_5.lt
              refine hK.out _ _ ?_ (fun hH4 => ?_)
              · exact HX.out _ (kb2_6_7_5)
              clear hK K
              (try simp only [Act.put, List.getElem_toArray, List.getElem_cons_zero, List.getElem_cons_succ, List.setIfInBounds_toArray, List.set_cons_zero, List.set_cons_succ])
              refine wpAnyH_ready (rs := [8]) (by kernel_rfl) (by simp) ?_
              refine AllReadyH.cons rfl (fun K hK => ?_) ?_
              · have c0 := z62_6_7_5.cell 0
                have f0 := z62_6_7_5.frozen 0
                have c1 := z62_6_7_5.cell 1
                have f1 := z62_6_7_5.frozen 1
                have c2 := z62_6_7_5.cell 2
                have f2 := z62_6_7_5.frozen 2
                have c3 := z62_6_7_5.cell 3
                have f3 := z62_6_7_5.frozen 3
                simp only [List.getElem?_toArray, List.getElem?_cons_zero, List.getElem?_cons_succ] at c0 c1 c2 c3
                go_simp
                have kb2_6_7_5_8 : Fr q.wr w8 ((((((u2_6_7_5).setCell ⟨u2.heap.size, 0, none⟩ (.int .i64 0)).setCell ⟨u2.heap.size, 1, none⟩ (.int .i64 hv)).setCell ⟨u2.heap.size, 2, none⟩ (.int .i64 st)).setCell ⟨u2.heap.size, 3, none⟩ (.int .i64 0))) := keep_set4 kb2_6_7_5 (by omega)
                have bb2_6_7_5_8 : BkS ((((((u2_6_7_5).setCell ⟨u2.heap.size, 0, none⟩ (.int .i64 0)).setCell ⟨u2.heap.size, 1, none⟩ (.int .i64 hv)).setCell ⟨u2.heap.size, 2, none⟩ (.int .i64 st)).setCell ⟨u2.heap.size, 3, none⟩ (.int .i64 0))) q b := bb2_6_7_5.fr (fr_set4 (u2_6_7_5) (u2.heap.size) (.int .i64 0) (.int .i64 hv) (.int .i64 st) (.int .i64 0)) (fun i hi e => by have h1 := HLT.out i hi; have : i = u2.heap.size := e; omega)
                have z62_6_7_5_8 : Blk ((((((u2_6_7_5).setCell ⟨u2.heap.size, 0, none⟩ (.int .i64 0)).setCell ⟨u2.heap.size, 1, none⟩ (.int .i64 hv)).setCell ⟨u2.heap.size, 2, none⟩ (.int .i64 st)).setCell ⟨u2.heap.size, 3, none⟩ (.int .i64 0))) (u2.heap.size) 29 #[.int .i64 0, .int .i64 hv, .int .i64 st, .int .i64 0] := blk_set4 z62_6_7_5 (.int .i64 0) (.int .i64 hv) (.int .i64 st) (.int .i64 0)
                have z72_6_7_5_8 : Blk ((((((u2_6_7_5).setCell ⟨u2.heap.size, 0, none⟩ (.int .i64 0)).setCell ⟨u2.heap.size, 1, none⟩ (.int .i64 hv)).setCell ⟨u2.heap.size, 2, none⟩ (.int .i64 st)).setCell ⟨u2.heap.size, 3, none⟩ (.int .i64 0))) (u2.heap.size + 1) 29 #[.int .i64 0, .int .i64 0, .int .i64 0, .int .i64 0] := (z72_6_7_5).fr (fr_set4 (u2_6_7_5) (u2.heap.size) (.int .i64 0) (.int .i64 hv) (.int .i64 st) (.int .i64 0)) (fun e => by have : u2.heap.size + 1 = u2.heap.size := e; omega)
                have kk2_6_7_5_8 : Fr q.wr w8 ((((((u2_6_7_5).setCell ⟨u2.heap.size, 0, none⟩ (.int .i64 0)).setCell ⟨u2.heap.size, 1, none⟩ (.int .i64 hv)).setCell ⟨u2.heap.size, 2, none⟩ (.int .i64 st)).setCell ⟨u2.heap.size, 3, none⟩ (.int .i64 0))) := kb2_6_7_5_8
                refine hK.out _ _ ?_ (fun hH5 => ?_)
                · exact HX.out _ kk2_6_7_5_8
                clear hK K
                (try simp only [Act.put, List.getElem_toArray, List.getElem_cons_zero, List.getElem_cons_succ, List.setIfInBounds_toArray, List.set_cons_zero, List.set_cons_succ])
                refine wpAnyH_ready (rs := [9]) (by kernel_rfl) (by simp) ?_
                refine AllReadyH.cons rfl (fun K hK => ?_) ?_
                · have c0 := z72_6_7_5_8.cell 0
                  have f0 := z72_6_7_5_8.frozen 0
                  have c1 := z72_6_7_5_8.cell 1
                  have f1 := z72_6_7_5_8.frozen 1
                  have c2 := z72_6_7_5_8.cell 2
                  have f2 := z72_6_7_5_8.frozen 2
                  have c3 := z72_6_7_5_8.cell 3
                  have f3 := z72_6_7_5_8.frozen 3
                  simp only [List.getElem?_toArray, List.getElem?_cons_zero, List.getElem?_cons_succ] at c0 c1 c2 c3
                  have hne1 : ¬ u2.heap.size + 1 = u2.heap.size := by omega
                  have hne2 : ¬ u2.heap.size = u2.heap.size + 1 := by omega
                  have d0 := z72_6_7_5.cell 0
                  have e0 := z72_6_7_5.frozen 0
                  have d1 := z72_6_7_5.cell 1
                  have e1 := z72_6_7_5.frozen 1
                  have d2 := z72_6_7_5.cell 2
                  have e2 := z72_6_7_5.frozen 2
                  have d3 := z72_6_7_5.cell 3
                  have e3 := z72_6_7_5.frozen 3
                  simp only [List.getElem?_toArray, List.getElem?_cons_zero, List.getElem?_cons_succ] at d0 d1 d2 d3
                  go_simp
                  have kb2_6_7_5_8_9 : Fr q.wr w8 ((((((((((u2_6_7_5).setCell ⟨u2.heap.size, 0, none⟩ (.int .i64 0)).setCell ⟨u2.heap.size, 1, none⟩ (.int .i64 hv)).setCell ⟨u2.heap.size, 2, none⟩ (.int .i64 st)).setCell ⟨u2.heap.size, 3, none⟩ (.int .i64 0)).setCell ⟨u2.heap.size + 1, 0, none⟩ (.int .i64 6)).setCell ⟨u2.heap.size + 1, 1, none⟩ (.int .i64 0)).setCell ⟨u2.heap.size + 1, 2, none⟩ (.int .i64 0)).setCell ⟨u2.heap.size + 1, 3, none⟩ (.int .i64 0))) := keep_set4 kb2_6_7_5_8 (by omega)
                  have bb2_6_7_5_8_9 : BkS ((((((((((u2_6_7_5).setCell ⟨u2.heap.size, 0, none⟩ (.int .i64 0)).setCell ⟨u2.heap.size, 1, none⟩ (.int .i64 hv)).setCell ⟨u2.heap.size, 2, none⟩ (.int .i64 st)).setCell ⟨u2.heap.size, 3, none⟩ (.int .i64 0)).setCell ⟨u2.heap.size + 1, 0, none⟩ (.int .i64 6)).setCell ⟨u2.heap.size + 1, 1, none⟩ (.int .i64 0)).setCell ⟨u2.heap.size + 1, 2, none⟩ (.int .i64 0)).setCell ⟨u2.heap.size + 1, 3, none⟩ (.int .i64 0))) q b := bb2_6_7_5_8.fr (fr_set4 (((((u2_6_7_5).setCell ⟨u2.heap.size, 0, none⟩ (.int .i64 0)).setCell ⟨u2.heap.size, 1, none⟩ (.int .i64 hv)).setCell ⟨u2.heap.size, 2, none⟩ (.int .i64 st)).setCell ⟨u2.heap.size, 3, none⟩ (.int .i64 0)) (u2.heap.size + 1) (.int .i64 6) (.int .i64 0) (.int .i64 0) (.int .i64 0)) (fun i hi e => by have h1 := HLT.out i hi; have : i = u2.heap.size + 1 := e; omega)
                  have z72_6_7_5_8_9 : Blk ((((((((((u2_6_7_5).setCell ⟨u2.heap.size, 0, none⟩ (.int .i64 0)).setCell ⟨u2.heap.size, 1, none⟩ (.int .i64 hv)).setCell ⟨u2.heap.size, 2, none⟩ (.int .i64 st)).setCell ⟨u2.heap.size, 3, none⟩ (.int .i64 0)).setCell ⟨u2.heap.size + 1, 0, none⟩ (.int .i64 6)).setCell ⟨u2.heap.size + 1, 1, none⟩ (.int .i64 0)).setCell ⟨u2.heap.size + 1, 2, none⟩ (.int .i64 0)).setCell ⟨u2.heap.size + 1, 3, none⟩ (.int .i64 0))) (u2.heap.size + 1) 29 #[.int .i64 6, .int .i64 0, .int .i64 0, .int .i64 0] := blk_set4 z72_6_7_5_8 (.int .i64 6) (.int .i64 0) (.int .i64 0) (.int .i64 0)
                  have z62_6_7_5_8_9 : Blk ((((((((((u2_6_7_5).setCell ⟨u2.heap.size, 0, none⟩ (.int .i64 0)).setCell ⟨u2.heap.size, 1, none⟩ (.int .i64 hv)).setCell ⟨u2.heap.size, 2, none⟩ (.int .i64 st)).setCell ⟨u2.heap.size, 3, none⟩ (.int .i64 0)).setCell ⟨u2.heap.size + 1, 0, none⟩ (.int .i64 6)).setCell ⟨u2.heap.size + 1, 1, none⟩ (.int .i64 0)).setCell ⟨u2.heap.size + 1, 2, none⟩ (.int .i64 0)).setCell ⟨u2.heap.size + 1, 3, none⟩ (.int .i64 0))) (u2.heap.size) 29 #[.int .i64 0, .int .i64 hv, .int .i64 st, .int .i64 0] := (z62_6_7_5_8).fr (fr_set4 (((((u2_6_7_5).setCell ⟨u2.heap.size, 0, none⟩ (.int .i64 0)).setCell ⟨u2.heap.size, 1, none⟩ (.int .i64 hv)).setCell ⟨u2.heap.size, 2, none⟩ (.int .i64 st)).setCell ⟨u2.heap.size, 3, none⟩ (.int .i64 0)) (u2.heap.size + 1) (.int .i64 6) (.int .i64 0) (.int .i64 0) (.int .i64 0)) (fun e => by have : u2.heap.size = u2.heap.size + 1 := e; omega)
                  have kk2_6_7_5_8_9 : Fr q.wr w8 ((((((((((u2_6_7_5).setCell ⟨u2.heap.size, 0, none⟩ (.int .i64 0)).setCell ⟨u2.heap.size, 1, none⟩ (.int .i64 hv)).setCell ⟨u2.heap.size, 2, none⟩ (.int .i64 st)).setCell ⟨u2.heap.size, 3, none⟩ (.int .i64 0)).setCell ⟨u2.heap.size + 1, 0, none⟩ (.int .i64 6)).setCell ⟨u2.heap.size + 1, 1, none⟩ (.int .i64 0)).setCell ⟨u2.heap.size + 1, 2, none⟩ (.int .i64 0)).setCell ⟨u2.heap.size + 1, 3, none⟩ (.int .i64 0))) := kb2_6_7_5_8_9
                  refine hK.out _ _ ?_ (fun hH6 => ?_)
                  · exact HX.out _ kk2_6_7_5_8_9
                  clear hK K
                  (try simp only [Act.put, List.getElem_toArray, List.getElem_cons_zero, List.getElem_cons_succ, List.setIfInBounds_toArray, List.set_cons_zero, List.set_cons_succ])
                  refine wpAnyH_done (by kernel_rfl) ?_ _
                  have hend : BhEnd q b hv st w8 (.pointer (some ⟨u2.heap.size, 0, none⟩)) (.pointer (some ⟨u2.heap.size + 1, 0, none⟩)) ((((((((((u2_6_7_5).setCell ⟨u2.heap.size, 0, none⟩ (.int .i64 0)).setCell ⟨u2.heap.size, 1, none⟩ (.int .i64 hv)).setCell ⟨u2.heap.size, 2, none⟩ (.int .i64 st)).setCell ⟨u2.heap.size, 3, none⟩ (.int .i64 0)).setCell ⟨u2.heap.size + 1, 0, none⟩ (.int .i64 6)).setCell ⟨u2.heap.size + 1, 1, none⟩ (.int .i64 0)).setCell ⟨u2.heap.size + 1, 2, none⟩ (.int .i64 0)).setCell ⟨u2.heap.size + 1, 3, none⟩ (.int .i64 0))) := ⟨u2.heap.size, u2.heap.size + 1, rfl, rfl, (z62_6_7_5_8_9), (z72_6_7_5_8_9), bb2_6_7_5_8_9.no (Fr.refl _ _), kk2_6_7_5_8_9⟩
                  go_wp2
                  go_meet
                  exact hend
                exact AllReadyH.nil
              exact AllReadyH.nil
            exact AllReadyH.nil
          exact AllReadyH.nil
        refine AllReadyH.cons rfl (fun K hK => ?_) ?_
        · go_simp
          refine hK.out _ _ ?_ (fun hH2 => ?_)
          · exact HX.out _ ((kb2).alloc _)
          clear hK K
          (try simp only [Act.put, List.getElem_toArray, List.getElem_cons_zero, List.getElem_cons_succ, List.setIfInBounds_toArray, List.set_cons_zero, List.set_cons_succ])
          refine wpAnyH_ready (rs := [5, 6]) (by kernel_rfl) (by simp) ?_
          refine AllReadyH.cons rfl (fun K hK => ?_) ?_
          · go_simp
            have b_ : BkS (((u2)).alloc (.cells #[.int .i64 0, .int .i64 0, .int .i64 0, .int .i64 0] 29)) q b := bb2.no ((Fr.refl _ _).alloc _)
            (with_reducible refine (HD2.out _ b_).mono ?_)
            rintro e u2_7_5 ⟨rfl, bb2_7_5, hg⟩
            have kw : Fr q.wr w8 (((u2)).alloc (.cells #[.int .i64 0, .int .i64 0, .int .i64 0, .int .i64 0] 29)) := (kb2).alloc _
            have kb2_7_5 : Fr q.wr w8 u2_7_5 := Fr.trans kw hg
            have z72_7_5 : Blk u2_7_5 (u2.heap.size) 29 #[.int .i64 0, .int .i64 0, .int .i64 0, .int .i64 0] := by
              have h := Blk.new ((u2)) 29 #[.int .i64 0, .int .i64 0, .int .i64 0, .int .i64 0]
              exact (h).fr hg (HFAR.out _ (by have := (kb2).size; omega))
            clear b_ kw hg
            have hs2_7_5 : w8.heap.size ≤ u2_7_5.heap.size := (kb2_7_5).size
            have hl72_7_5 : u2.heap.size < u2_7_5.heap.size := z72_7_5.lt
            refine hK.out _ _ ?_ (fun hH3 => ?_)
            · exact HX.out _ (kb2_7_5)
            clear hK K
            (try simp only [Act.put, List.getElem_toArray, List.getElem_cons_zero, List.getElem_cons_succ, List.setIfInBounds_toArray, List.set_cons_zero, List.set_cons_succ])
            refine wpAnyH_ready (rs := [6]) (by kernel_rfl) (by simp) ?_
            refine AllReadyH.cons rfl (fun K hK => ?_) ?_
            · go_simp
              refine hK.out _ _ ?_ (fun hH4 => ?_)
              · exact HX.out _ ((kb2_7_5).alloc _)
              clear hK K
              (try simp only [Act.put, List.getElem_toArray, List.getElem_cons_zero, List.getElem_cons_succ, List.setIfInBounds_toArray, List.set_cons_zero, List.set_cons_succ])
              refine wpAnyH_ready (rs := [8]) (by kernel_rfl) (by simp) ?_
              refine AllReadyH.cons rfl (fun K hK => ?_) ?_
              · go_simp
                have kk2_7_5_6_8 : Fr q.wr w8 (((u2_7_5)).alloc (.cells #[.int .i64 0, .int .i64 hv, .int .i64 st, .int .i64 0] 29)) := (kb2_7_5).alloc _
                refine hK.out _ _ ?_ (fun hH5 => ?_)
                · exact HX.out _ kk2_7_5_6_8
                clear hK K
                (try simp only [Act.put, List.getElem_toArray, List.getElem_cons_zero, List.getElem_cons_succ, List.setIfInBounds_toArray, List.set_cons_zero, List.set_cons_succ])
                refine wpAnyH_ready (rs := [9]) (by kernel_rfl) (by simp) ?_
                refine AllReadyH.cons rfl (fun K hK => ?_) ?_
                · have c0 := z72_7_5.cell 0
                  have f0 := z72_7_5.frozen 0
                  have c1 := z72_7_5.cell 1
                  have f1 := z72_7_5.frozen 1
                  have c2 := z72_7_5.cell 2
                  have f2 := z72_7_5.frozen 2
                  have c3 := z72_7_5.cell 3
                  have f3 := z72_7_5.frozen 3
                  simp only [List.getElem?_toArray, List.getElem?_cons_zero, List.getElem?_cons_succ] at c0 c1 c2 c3
                  go_simp
                  have kb2_7_5_6_8_9 : Fr q.wr w8 ((((((u2_7_5).setCell ⟨u2.heap.size, 0, none⟩ (.int .i64 6)).setCell ⟨u2.heap.size, 1, none⟩ (.int .i64 0)).setCell ⟨u2.heap.size, 2, none⟩ (.int .i64 0)).setCell ⟨u2.heap.size, 3, none⟩ (.int .i64 0))) := keep_set4 kb2_7_5 (by omega)
                  have bb2_7_5_6_8_9 : BkS ((((((u2_7_5).setCell ⟨u2.heap.size, 0, none⟩ (.int .i64 6)).setCell ⟨u2.heap.size, 1, none⟩ (.int .i64 0)).setCell ⟨u2.heap.size, 2, none⟩ (.int .i64 0)).setCell ⟨u2.heap.size, 3, none⟩ (.int .i64 0))) q b := bb2_7_5.fr (fr_set4 (u2_7_5) (u2.heap.size) (.int .i64 6) (.int .i64 0) (.int .i64 0) (.int .i64 0)) (fun i hi e => by have h1 := HLT.out i hi; have : i = u2.heap.size := e; omega)
                  have z72_7_5_6_8_9 : Blk ((((((u2_7_5).setCell ⟨u2.heap.size, 0, none⟩ (.int .i64 6)).setCell ⟨u2.heap.size, 1, none⟩ (.int .i64 0)).setCell ⟨u2.heap.size, 2, none⟩ (.int .i64 0)).setCell ⟨u2.heap.size, 3, none⟩ (.int .i64 0))) (u2.heap.size) 29 #[.int .i64 6, .int .i64 0, .int .i64 0, .int .i64 0] := blk_set4 z72_7_5 (.int .i64 6) (.int .i64 0) (.int .i64 0) (.int .i64 0)
                  have kk2_7_5_6_8_9 : Fr q.wr w8 (((((((u2_7_5).setCell ⟨u2.heap.size, 0, none⟩ (.int .i64 6)).setCell ⟨u2.heap.size, 1, none⟩ (.int .i64 0)).setCell ⟨u2.heap.size, 2, none⟩ (.int .i64 0)).setCell ⟨u2.heap.size, 3, none⟩ (.int .i64 0))).alloc (.cells #[.int .i64 0, .int .i64 hv, .int .i64 st, .int .i64 0] 29)) := (kb2_7_5_6_8_9).alloc _
                  refine hK.out _ _ ?_ (fun hH6 => ?_)
                  · exact HX.out _ kk2_7_5_6_8_9
                  clear hK K
                  (try simp only [Act.put, List.getElem_toArray, List.getElem_cons_zero, List.getElem_cons_succ, List.setIfInBounds_toArray, List.set_cons_zero, List.set_cons_succ])
                  refine wpAnyH_done (by kernel_rfl) ?_ _
                  have hend : BhEnd q b hv st w8 (.pointer (some ⟨u2_7_5.heap.size, 0, none⟩)) (.pointer (some ⟨u2.heap.size, 0, none⟩)) (((((((u2_7_5).setCell ⟨u2.heap.size, 0, none⟩ (.int .i64 6)).setCell ⟨u2.heap.size, 1, none⟩ (.int .i64 0)).setCell ⟨u2.heap.size, 2, none⟩ (.int .i64 0)).setCell ⟨u2.heap.size, 3, none⟩ (.int .i64 0))).alloc (.cells #[.int .i64 0, .int .i64 hv, .int .i64 st, .int .i64 0] 29)) := ⟨u2_7_5.heap.size, u2.heap.size, rfl, rfl, (by have h := Blk.new ((((((u2_7_5).setCell ⟨u2.heap.size, 0, none⟩ (.int .i64 6)).setCell ⟨u2.heap.size, 1, none⟩ (.int .i64 0)).setCell ⟨u2.heap.size, 2, none⟩ (.int .i64 0)).setCell ⟨u2.heap.size, 3, none⟩ (.int .i64 0))) 29 #[.int .i64 0, .int .i64 hv, .int .i64 st, .int .i64 0]; (try simp only [World.size_alloc, size_set4] at h); exact h), ((z72_7_5_6_8_9).alloc _), bb2_7_5_6_8_9.no ((Fr.refl _ _).alloc _), kk2_7_5_6_8_9⟩
                  go_wp2
                  go_meet
                  exact hend
                exact AllReadyH.nil
              exact AllReadyH.nil
            exact AllReadyH.nil
          refine AllReadyH.cons rfl (fun K hK => ?_) ?_
          · go_simp
            refine hK.out _ _ ?_ (fun hH3 => ?_)
            · exact HX.out _ (((kb2).alloc _).alloc _)
            clear hK K
            (try simp only [Act.put, List.getElem_toArray, List.getElem_cons_zero, List.getElem_cons_succ, List.setIfInBounds_toArray, List.set_cons_zero, List.set_cons_succ])
            refine wpAnyH_ready (rs := [5]) (by kernel_rfl) (by simp) ?_
            refine AllReadyH.cons rfl (fun K hK => ?_) ?_
            · go_simp
              have b_ : BkS ((((u2)).alloc (.cells #[.int .i64 0, .int .i64 0, .int .i64 0, .int .i64 0] 29)).alloc (.cells #[.int .i64 0, .int .i64 0, .int .i64 0, .int .i64 0] 29)) q b := bb2.no (((Fr.refl _ _).alloc _).alloc _)
              (with_reducible refine (HD2.out _ b_).mono ?_)
              rintro e u2_7_6_5 ⟨rfl, bb2_7_6_5, hg⟩
              have kw : Fr q.wr w8 ((((u2)).alloc (.cells #[.int .i64 0, .int .i64 0, .int .i64 0, .int .i64 0] 29)).alloc (.cells #[.int .i64 0, .int .i64 0, .int .i64 0, .int .i64 0] 29)) := ((kb2).alloc _).alloc _
              have kb2_7_6_5 : Fr q.wr w8 u2_7_6_5 := Fr.trans kw hg
              have z72_7_6_5 : Blk u2_7_6_5 (u2.heap.size) 29 #[.int .i64 0, .int .i64 0, .int .i64 0, .int .i64 0] := by
                have h := Blk.new ((u2)) 29 #[.int .i64 0, .int .i64 0, .int .i64 0, .int .i64 0]
                exact ((h).alloc _).fr hg (HFAR.out _ (by have := (kb2).size; omega))
              have z62_7_6_5 : Blk u2_7_6_5 (u2.heap.size + 1) 29 #[.int .i64 0, .int .i64 0, .int .i64 0, .int .i64 0] := by
                have h := Blk.new (((u2)).alloc (.cells #[.int .i64 0, .int .i64 0, .int .i64 0, .int .i64 0] 29)) 29 #[.int .i64 0, .int .i64 0, .int .i64 0, .int .i64 0]
                simp only [World.size_alloc] at h
                exact (h).fr hg (HFAR.out _ (by have := (kb2).size; omega))
              clear b_ kw hg
              have hs2_7_6_5 : w8.heap.size ≤ u2_7_6_5.heap.size := (kb2_7_6_5).size
              have hl72_7_6_5 : u2.heap.size < u2_7_6_5.heap.size := z72_7_6_5.lt
              have hl62_7_6_5 : u2.heap.size + 1 < u2_7_6_5.heap.size := z62_7_6_5.lt
              refine hK.out _ _ ?_ (fun hH4 => ?_)
              · exact HX.out _ (kb2_7_6_5)
              clear hK K
              (try simp only [Act.put, List.getElem_toArray, List.getElem_cons_zero, List.getElem_cons_succ, List.setIfInBounds_toArray, List.set_cons_zero, List.set_cons_succ])
              refine wpAnyH_ready (rs := [8]) (by kernel_rfl) (by simp) ?_
              refine AllReadyH.cons rfl (fun K hK => ?_) ?_
              · have c0 := z62_7_6_5.cell 0
                have f0 := z62_7_6_5.frozen 0
                have c1 := z62_7_6_5.cell 1
                have f1 := z62_7_6_5.frozen 1
                have c2 := z62_7_6_5.cell 2
                have f2 := z62_7_6_5.frozen 2
                have c3 := z62_7_6_5.cell 3
                have f3 := z62_7_6_5.frozen 3
                simp only [List.getElem?_toArray, List.getElem?_cons_zero, List.getElem?_cons_succ] at c0 c1 c2 c3
                go_simp
                have kb2_7_6_5_8 : Fr q.wr w8 ((((((u2_7_6_5).setCell ⟨u2.heap.size + 1, 0, none⟩ (.int .i64 0)).setCell ⟨u2.heap.size + 1, 1, none⟩ (.int .i64 hv)).setCell ⟨u2.heap.size + 1, 2, none⟩ (.int .i64 st)).setCell ⟨u2.heap.size + 1, 3, none⟩ (.int .i64 0))) := keep_set4 kb2_7_6_5 (by omega)
                have bb2_7_6_5_8 : BkS ((((((u2_7_6_5).setCell ⟨u2.heap.size + 1, 0, none⟩ (.int .i64 0)).setCell ⟨u2.heap.size + 1, 1, none⟩ (.int .i64 hv)).setCell ⟨u2.heap.size + 1, 2, none⟩ (.int .i64 st)).setCell ⟨u2.heap.size + 1, 3, none⟩ (.int .i64 0))) q b := bb2_7_6_5.fr (fr_set4 (u2_7_6_5) (u2.heap.size + 1) (.int .i64 0) (.int .i64 hv) (.int .i64 st) (.int .i64 0)) (fun i hi e => by have h1 := HLT.out i hi; have : i = u2.heap.size + 1 := e; omega)
                have z62_7_6_5_8 : Blk ((((((u2_7_6_5).setCell ⟨u2.heap.size + 1, 0, none⟩ (.int .i64 0)).setCell ⟨u2.heap.size + 1, 1, none⟩ (.int .i64 hv)).setCell ⟨u2.heap.size + 1, 2, none⟩ (.int .i64 st)).setCell ⟨u2.heap.size + 1, 3, none⟩ (.int .i64 0))) (u2.heap.size + 1) 29 #[.int .i64 0, .int .i64 hv, .int .i64 st, .int .i64 0] := blk_set4 z62_7_6_5 (.int .i64 0) (.int .i64 hv) (.int .i64 st) (.int .i64 0)
                have z72_7_6_5_8 : Blk ((((((u2_7_6_5).setCell ⟨u2.heap.size + 1, 0, none⟩ (.int .i64 0)).setCell ⟨u2.heap.size + 1, 1, none⟩ (.int .i64 hv)).setCell ⟨u2.heap.size + 1, 2, none⟩ (.int .i64 st)).setCell ⟨u2.heap.size + 1, 3, none⟩ (.int .i64 0))) (u2.heap.size) 29 #[.int .i64 0, .int .i64 0, .int .i64 0, .int .i64 0] := (z72_7_6_5).fr (fr_set4 (u2_7_6_5) (u2.heap.size + 1) (.int .i64 0) (.int .i64 hv) (.int .i64 st) (.int .i64 0)) (fun e => by have : u2.heap.size = u2.heap.size + 1 := e; omega)
                have kk2_7_6_5_8 : Fr q.wr w8 ((((((u2_7_6_5).setCell ⟨u2.heap.size + 1, 0, none⟩ (.int .i64 0)).setCell ⟨u2.heap.size + 1, 1, none⟩ (.int .i64 hv)).setCell ⟨u2.heap.size + 1, 2, none⟩ (.int .i64 st)).setCell ⟨u2.heap.size + 1, 3, none⟩ (.int .i64 0))) := kb2_7_6_5_8
                refine hK.out _ _ ?_ (fun hH5 => ?_)
                · exact HX.out _ kk2_7_6_5_8
                clear hK K
                (try simp only [Act.put, List.getElem_toArray, List.getElem_cons_zero, List.getElem_cons_succ, List.setIfInBounds_toArray, List.set_cons_zero, List.set_cons_succ])
                refine wpAnyH_ready (rs := [9]) (by kernel_rfl) (by simp) ?_
                refine AllReadyH.cons rfl (fun K hK => ?_) ?_
                · have c0 := z72_7_6_5_8.cell 0
                  have f0 := z72_7_6_5_8.frozen 0
                  have c1 := z72_7_6_5_8.cell 1
                  have f1 := z72_7_6_5_8.frozen 1
                  have c2 := z72_7_6_5_8.cell 2
                  have f2 := z72_7_6_5_8.frozen 2
                  have c3 := z72_7_6_5_8.cell 3
                  have f3 := z72_7_6_5_8.frozen 3
                  simp only [List.getElem?_toArray, List.getElem?_cons_zero, List.getElem?_cons_succ] at c0 c1 c2 c3
                  have hne1 : ¬ u2.heap.size = u2.heap.size + 1 := by omega
                  have hne2 : ¬ u2.heap.size + 1 = u2.heap.size := by omega
                  have d0 := z72_7_6_5.cell 0
                  have e0 := z72_7_6_5.frozen 0
                  have d1 := z72_7_6_5.cell 1
                  have e1 := z72_7_6_5.frozen 1
                  have d2 := z72_7_6_5.cell 2
                  have e2 := z72_7_6_5.frozen 2
                  have d3 := z72_7_6_5.cell 3
                  have e3 := z72_7_6_5.frozen 3
                  simp only [List.getElem?_toArray, List.getElem?_cons_zero, List.getElem?_cons_succ] at d0 d1 d2 d3
                  go_simp
                  have kb2_7_6_5_8_9 : Fr q.wr w8 ((((((((((u2_7_6_5).setCell ⟨u2.heap.size + 1, 0, none⟩ (.int .i64 0)).setCell ⟨u2.heap.size + 1, 1, none⟩ (.int .i64 hv)).setCell ⟨u2.heap.size + 1, 2, none⟩ (.int .i64 st)).setCell ⟨u2.heap.size + 1, 3, none⟩ (.int .i64 0)).setCell ⟨u2.heap.size, 0, none⟩ (.int .i64 6)).setCell ⟨u2.heap.size, 1, none⟩ (.int .i64 0)).setCell ⟨u2.heap.size, 2, none⟩ (.int .i64 0)).setCell ⟨u2.heap.size, 3, none⟩ (.int .i64 0))) := keep_set4 kb2_7_6_5_8 (by omega)
                  have bb2_7_6_5_8_9 : BkS ((((((((((u2_7_6_5).setCell ⟨u2.heap.size + 1, 0, none⟩ (.int .i64 0)).setCell ⟨u2.heap.size + 1, 1, none⟩ (.int .i64 hv)).setCell ⟨u2.heap.size + 1, 2, none⟩ (.int .i64 st)).setCell ⟨u2.heap.size + 1, 3, none⟩ (.int .i64 0)).setCell ⟨u2.heap.size, 0, none⟩ (.int .i64 6)).setCell ⟨u2.heap.size, 1, none⟩ (.int .i64 0)).setCell ⟨u2.heap.size, 2, none⟩ (.int .i64 0)).setCell ⟨u2.heap.size, 3, none⟩ (.int .i64 0))) q b := bb2_7_6_5_8.fr (fr_set4 (((((u2_7_6_5).setCell ⟨u2.heap.size + 1, 0, none⟩ (.int .i64 0)).setCell ⟨u2.heap.size + 1, 1, none⟩ (.int .i64 hv)).setCell ⟨u2.heap.size + 1, 2, none⟩ (.int .i64 st)).setCell ⟨u2.heap.size + 1, 3, none⟩ (.int .i64 0)) (u2.heap.size) (.int .i64 6) (.int .i64 0) (.int .i64 0) (.int .i64 0)) (fun i hi e => by have h1 := HLT.out i hi; have : i = u2.heap.size := e; omega)
                  have z72_7_6_5_8_9 : Blk ((((((((((u2_7_6_5).setCell ⟨u2.heap.size + 1, 0, none⟩ (.int .i64 0)).setCell ⟨u2.heap.size + 1, 1, none⟩ (.int .i64 hv)).setCell ⟨u2.heap.size + 1, 2, none⟩ (.int .i64 st)).setCell ⟨u2.heap.size + 1, 3, none⟩ (.int .i64 0)).setCell ⟨u2.heap.size, 0, none⟩ (.int .i64 6)).setCell ⟨u2.heap.size, 1, none⟩ (.int .i64 0)).setCell ⟨u2.heap.size, 2, none⟩ (.int .i64 0)).setCell ⟨u2.heap.size, 3, none⟩ (.int .i64 0))) (u2.heap.size) 29 #[.int .i64 6, .int .i64 0, .int .i64 0, .int .i64 0] := blk_set4 z72_7_6_5_8 (.int .i64 6) (.int .i64 0) (.int .i64 0) (.int .i64 0)
                  have z62_7_6_5_8_9 : Blk ((((((((((u2_7_6_5).setCell ⟨u2.heap.size + 1, 0, none⟩ (.int .i64 0)).setCell ⟨u2.heap.size + 1, 1, none⟩ (.int .i64 hv)).setCell ⟨u2.heap.size + 1, 2, none⟩ (.int .i64 st)).setCell ⟨u2.heap.size + 1, 3, none⟩ (.int .i64 0)).setCell ⟨u2.heap.size, 0, none⟩ (.int .i64 6)).setCell ⟨u2.heap.size, 1, none⟩ (.int .i64 0)).setCell ⟨u2.heap.size, 2, none⟩ (.int .i64 0)).setCell ⟨u2.heap.size, 3, none⟩ (.int .i64 0))) (u2.heap.size + 1) 29 #[.int .i64 0, .int .i64 hv, .int .i64 st, .int .i64 0] := (z62_7_6_5_8).fr (fr_set4 (((((u2_7_6_5).setCell ⟨u2.heap.size + 1, 0, none⟩ (.int .i64 0)).setCell ⟨u2.heap.size + 1, 1, none⟩ (.int .i64 hv)).setCell ⟨u2.heap.size + 1, 2, none⟩ (.int .i64 st)).setCell ⟨u2.heap.size + 1, 3, none⟩ (.int .i64 0)) (u2.heap.size) (.int .i64 6) (.int .i64 0) (.int .i64 0) (.int .i64 0)) (fun e => by have : u2.heap.size + 1 = u2.heap.size := e; omega)
                  have kk2_7_6_5_8_9 : Fr q.wr w8 ((((((((((u2_7_6_5).setCell ⟨u2.heap.size + 1, 0, none⟩ (.int .i64 0)).setCell ⟨u2.heap.size + 1, 1, none⟩ (.int .i64 hv)).setCell ⟨u2.heap.size + 1, 2, none⟩ (.int .i64 st)).setCell ⟨u2.heap.size + 1, 3, none⟩ (.int .i64 0)).setCell ⟨u2.heap.size, 0, none⟩ (.int .i64 6)).setCell ⟨u2.heap.size, 1, none⟩ (.int .i64 0)).setCell ⟨u2.heap.size, 2, none⟩ (.int .i64 0)).setCell ⟨u2.heap.size, 3, none⟩ (.int .i64 0))) := kb2_7_6_5_8_9
                  refine hK.out _ _ ?_ (fun hH6 => ?_)
                  · exact HX.out _ kk2_7_6_5_8_9
                  clear hK K
                  (try simp only [Act.put, List.getElem_toArray, List.getElem_cons_zero, List.getElem_cons_succ, List.setIfInBounds_toArray, List.set_cons_zero, List.set_cons_succ])
                  refine wpAnyH_done (by kernel_rfl) ?_ _
                  have hend : BhEnd q b hv st w8 (.pointer (some ⟨u2.heap.size + 1, 0, none⟩)) (.pointer (some ⟨u2.heap.size, 0, none⟩)) ((((((((((u2_7_6_5).setCell ⟨u2.heap.size + 1, 0, none⟩ (.int .i64 0)).setCell ⟨u2.heap.size + 1, 1, none⟩ (.int .i64 hv)).setCell ⟨u2.heap.size + 1, 2, none⟩ (.int .i64 st)).setCell ⟨u2.heap.size + 1, 3, none⟩ (.int .i64 0)).setCell ⟨u2.heap.size, 0, none⟩ (.int .i64 6)).setCell ⟨u2.heap.size, 1, none⟩ (.int .i64 0)).setCell ⟨u2.heap.size, 2, none⟩ (.int .i64 0)).setCell ⟨u2.heap.size, 3, none⟩ (.int .i64 0))) := ⟨u2.heap.size + 1, u2.heap.size, rfl, rfl, (z62_7_6_5_8_9), (z72_7_6_5_8_9), bb2_7_6_5_8_9.no (Fr.refl _ _), kk2_7_6_5_8_9⟩
                  go_wp2
                  go_meet
                  exact hend
                exact AllReadyH.nil
              exact AllReadyH.nil
            exact AllReadyH.nil
          exact AllReadyH.nil
        exact AllReadyH.nil
      refine AllReadyH.cons rfl (fun K hK => ?_) ?_
      · go_simp
        refine hK.out _ _ ?_ (fun hH1 => ?_)
        · exact HX.out _ (((k0).alloc _).drew)
        clear hK K
        (try simp only [Act.put, List.getElem_toArray, List.getElem_cons_zero, List.getElem_cons_succ, List.setIfInBounds_toArray, List.set_cons_zero, List.set_cons_succ])
        refine wpAnyH_ready (rs := [2, 7]) (by kernel_rfl) (by simp) ?_
        refine AllReadyH.cons rfl (fun K hK => ?_) ?_
        · go_simp
          have b_ : BkS ((((w8)).alloc (.cells #[.int .i64 0, .int .i64 0, .int .i64 0, .int .i64 0] 29)).drew) q B := b0.no (((Fr.refl _ _).alloc _).drew)
          (with_reducible refine (HD1.out _ b_).mono ?_)
          rintro e u6_2 ⟨rfl, bb6_2, hg⟩
          have kw : Fr q.wr w8 ((((w8)).alloc (.cells #[.int .i64 0, .int .i64 0, .int .i64 0, .int .i64 0] 29)).drew) := ((k0).alloc _).drew
          have kb6_2 : Fr q.wr w8 u6_2 := Fr.trans kw hg
          have z66_2 : Blk u6_2 (w8.heap.size) 29 #[.int .i64 0, .int .i64 0, .int .i64 0, .int .i64 0] := by
            have h := Blk.new ((w8)) 29 #[.int .i64 0, .int .i64 0, .int .i64 0, .int .i64 0]
            exact ((h).drew).fr hg (HFAR.out _ (by have := (k0).size; omega))
          clear b_ kw hg
          have hs6_2 : w8.heap.size ≤ u6_2.heap.size := (kb6_2).size
          have hl66_2 : w8.heap.size < u6_2.heap.size := z66_2.lt
          refine hK.out _ _ ?_ (fun hH2 => ?_)
          · exact HX.out _ (kb6_2)
          clear hK K
          (try simp only [Act.put, List.getElem_toArray, List.getElem_cons_zero, List.getElem_cons_succ, List.setIfInBounds_toArray, List.set_cons_zero, List.set_cons_succ])
          refine wpAnyH_ready (rs := [5, 7]) (by kernel_rfl) (by simp) ?_
          refine AllReadyH.cons rfl (fun K hK => ?_) ?_
          · go_simp
            have b_ : BkS ((u6_2)) q b := bb6_2.no (Fr.refl _ _)
            (with_reducible refine (HD2.out _ b_).mono ?_)
            rintro e u6_2_5 ⟨rfl, bb6_2_5, hg⟩
            have kw : Fr q.wr w8 ((u6_2)) := kb6_2
            have kb6_2_5 : Fr q.wr w8 u6_2_5 := Fr.trans kw hg
            have z66_2_5 : Blk u6_2_5 (w8.heap.size) 29 #[.int .i64 0, .int .i64 0, .int .i64 0, .int .i64 0] := (z66_2).fr hg (HFAR.out _ (by have := (kb6_2).size; omega))
            clear b_ kw hg
            have hs6_2_5 : w8.heap.size ≤ u6_2_5.heap.size := (kb6_2_5).size
            have hl66_2_5 : w8.heap.size < u6_2_5.heap.size := z66_2_5.lt
            refine hK.out _ _ ?_ (fun hH3 => ?_)
            · exact HX.out _ (kb6_2_5)
            clear hK K
            (try simp only [Act.put, List.getElem_toArray, List.getElem_cons_zero, List.getElem_cons_succ, List.setIfInBounds_toArray, List.set_cons_zero, List.set_cons_succ])
            refine wpAnyH_ready (rs := [7]) (by kernel_rfl) (by simp) ?_
            refine AllReadyH.cons rfl (fun K hK => ?_) ?_
            · go_simp
              refine hK.out _ _ ?_ (fun hH4 => ?_)
              · exact HX.out _ ((kb6_2_5).alloc _)
              clear hK K
              (try simp only [Act.put, List.getElem_toArray, List.getElem_cons_zero, List.getElem_cons_succ, List.setIfInBounds_toArray, List.set_cons_zero, List.set_cons_succ])
              refine wpAnyH_ready (rs := [8]) (by kernel_rfl) (by simp) ?_
              refine AllReadyH.cons rfl (fun K hK => ?_) ?_
              · have c0 := z66_2_5.cell 0
                have f0 := z66_2_5.frozen 0
                have c1 := z66_2_5.cell 1
                have f1 := z66_2_5.frozen 1
                have c2 := z66_2_5.cell 2
                have f2 := z66_2_5.frozen 2
                have c3 := z66_2_5.cell 3
                have f3 := z66_2_5.frozen 3
                simp only [List.getElem?_toArray, List.getElem?_cons_zero, List.getElem?_cons_succ] at c0 c1 c2 c3
                go_simp
                have kb6_2_5_7_8 : Fr q.wr w8 ((((((u6_2_5).setCell ⟨w8.heap.size, 0, none⟩ (.int .i64 0)).setCell ⟨w8.heap.size, 1, none⟩ (.int .i64 hv)).setCell ⟨w8.heap.size, 2, none⟩ (.int .i64 st)).setCell ⟨w8.heap.size, 3, none⟩ (.int .i64 0))) := keep_set4 kb6_2_5 (by omega)
                have bb6_2_5_7_8 : BkS ((((((u6_2_5).setCell ⟨w8.heap.size, 0, none⟩ (.int .i64 0)).setCell ⟨w8.heap.size, 1, none⟩ (.int .i64 hv)).setCell ⟨w8.heap.size, 2, none⟩ (.int .i64 st)).setCell ⟨w8.heap.size, 3, none⟩ (.int .i64 0))) q b := bb6_2_5.fr (fr_set4 (u6_2_5) (w8.heap.size) (.int .i64 0) (.int .i64 hv) (.int .i64 st) (.int .i64 0)) (fun i hi e => by have h1 := HLT.out i hi; have : i = w8.heap.size := e; omega)
                have z66_2_5_7_8 : Blk ((((((u6_2_5).setCell ⟨w8.heap.size, 0, none⟩ (.int .i64 0)).setCell ⟨w8.heap.size, 1, none⟩ (.int .i64 hv)).setCell ⟨w8.heap.size, 2, none⟩ (.int .i64 st)).setCell ⟨w8.heap.size, 3, none⟩ (.int .i64 0))) (w8.heap.size) 29 #[.int .i64 0, .int .i64 hv, .int .i64 st, .int .i64 0] := blk_set4 z66_2_5 (.int .i64 0) (.int .i64 hv) (.int .i64 st) (.int .i64 0)
                have kk6_2_5_7_8 : Fr q.wr w8 (((((((u6_2_5).setCell ⟨w8.heap.size, 0, none⟩ (.int .i64 0)).setCell ⟨w8.heap.size, 1, none⟩ (.int .i64 hv)).setCell ⟨w8.heap.size, 2, none⟩ (.int .i64 st)).setCell ⟨w8.heap.size, 3, none⟩ (.int .i64 0))).alloc (.cells #[.int .i64 0, .int .i64 0, .int .i64 0, .int .i64 0] 29)) := (kb6_2_5_7_8).alloc _
                refine hK.out _ _ ?_ (fun hH5 => ?_)
                · exact HX.out _ kk6_2_5_7_8
                clear hK K
                (try simp only [Act.put, List.getElem_toArray, List.getElem_cons_zero, List.getElem_cons_succ, List.setIfInBounds_toArray, List.set_cons_zero, List.set_cons_succ])
                refine wpAnyH_ready (rs := [9]) (by kernel_rfl) (by simp) ?_
                refine AllReadyH.cons rfl (fun K hK => ?_) ?_
                · go_simp
                  have kk6_2_5_7_8_9 : Fr q.wr w8 (((((((u6_2_5).setCell ⟨w8.heap.size, 0, none⟩ (.int .i64 0)).setCell ⟨w8.heap.size, 1, none⟩ (.int .i64 hv)).setCell ⟨w8.heap.size, 2, none⟩ (.int .i64 st)).setCell ⟨w8.heap.size, 3, none⟩ (.int .i64 0))).alloc (.cells #[.int .i64 6, .int .i64 0, .int .i64 0, .int .i64 0] 29)) := (kb6_2_5_7_8).alloc _
                  refine hK.out _ _ ?_ (fun hH6 => ?_)
                  · exact HX.out _ kk6_2_5_7_8_9
                  clear hK K
                  (try simp only [Act.put, List.getElem_toArray, List.getElem_cons_zero, List.getElem_cons_succ, List.setIfInBounds_toArray, List.set_cons_zero, List.set_cons_succ])
                  refine wpAnyH_done (by kernel_rfl) ?_ _
                  have hend : BhEnd q b hv st w8 (.pointer (some ⟨w8.heap.size, 0, none⟩)) (.pointer (some ⟨u6_2_5.heap.size, 0, none⟩)) (((((((u6_2_5).setCell ⟨w8.heap.size, 0, none⟩ (.int .i64 0)).setCell ⟨w8.heap.size, 1, none⟩ (.int .i64 hv)).setCell ⟨w8.heap.size, 2, none⟩ (.int .i64 st)).setCell ⟨w8.heap.size, 3, none⟩ (.int .i64 0))).alloc (.cells #[.int .i64 6, .int .i64 0, .int .i64 0, .int .i64 0] 29)) := ⟨w8.heap.size, u6_2_5.heap.size, rfl, rfl, ((z66_2_5_7_8).alloc _), (by have h := Blk.new ((((((u6_2_5).setCell ⟨w8.heap.size, 0, none⟩ (.int .i64 0)).setCell ⟨w8.heap.size, 1, none⟩ (.int .i64 hv)).setCell ⟨w8.heap.size, 2, none⟩ (.int .i64 st)).setCell ⟨w8.heap.size, 3, none⟩ (.int .i64 0))) 29 #[.int .i64 6, .int .i64 0, .int .i64 0, .int .i64 0]; (try simp only [World.size_alloc, size_set4] at h); exact h), bb6_2_5_7_8.no ((Fr.refl _ _).alloc _), kk6_2_5_7_8_9⟩
                  go_wp2
                  go_meet
                  exact hend
                exact AllReadyH.nil
              exact AllReadyH.nil
            exact AllReadyH.nil
          refine AllReadyH.cons rfl (fun K hK => ?_) ?_
          · go_simp
            refine hK.out _ _ ?_ (fun hH3 => ?_)
            · exact HX.out _ ((kb6_2).alloc _)
            clear hK K
            (try simp only [Act.put, List.getElem_toArray, List.getElem_cons_zero, List.getElem_cons_succ, List.setIfInBounds_toArray, List.set_cons_zero, List.set_cons_succ])
            refine wpAnyH_ready (rs := [5]) (by kernel_rfl) (by simp) ?_
            refine AllReadyH.cons rfl (fun K hK => ?_) ?_
            · go_simp
              have b_ : BkS (((u6_2)).alloc (.cells #[.int .i64 0, .int .i64 0, .int .i64 0, .int .i64 0] 29)) q b := bb6_2.no ((Fr.refl _ _).alloc _)
              (with_reducible refine (HD2.out _ b_).mono ?_)
              rintro e u6_2_7_5 ⟨rfl, bb6_2_7_5, hg⟩
              have kw : Fr q.wr w8 (((u6_2)).alloc (.cells #[.int .i64 0, .int .i64 0, .int .i64 0, .int .i64 0] 29)) := (kb6_2).alloc _
              have kb6_2_7_5 : Fr q.wr w8 u6_2_7_5 := Fr.trans kw hg
              have z66_2_7_5 : Blk u6_2_7_5 (w8.heap.size) 29 #[.int .i64 0, .int .i64 0, .int .i64 0, .int .i64 0] := ((z66_2).alloc _).fr hg (HFAR.out _ (by have := (kb6_2).size; omega))
              have z76_2_7_5 : Blk u6_2_7_5 (u6_2.heap.size) 29 #[.int .i64 0, .int .i64 0, .int .i64 0, .int .i64 0] := by
                have h := Blk.new ((u6_2)) 29 #[.int .i64 0, .int .i64 0, .int .i64 0, .int .i64 0]
                exact (h).fr hg (HFAR.out _ (by have := (kb6_2).size; omega))
              clear b_ kw hg
              have hs6_2_7_5 : w8.heap.size ≤ u6_2_7_5.heap.size := (kb6_2_7_5).size
              have hl66_2_7_5 : w8.heap.size < u6_2_7_5.heap.size := z66_2_7_5.lt
              have hl76_2_7_5 : u6_2.heap.size < u6_2_7_5.heap.size := z76_2_7_5.lt
              refine hK.out _ _ ?_ (fun hH4 => ?_)
              · exact HX.out _ (kb6_2_7_5)
              clear hK K
              (try simp only [Act.put, List.getElem_toArray, List.getElem_cons_zero, List.getElem_cons_succ, List.setIfInBounds_toArray, List.set_cons_zero, List.set_cons_succ])
              refine wpAnyH_ready (rs := [8]) (by kernel_rfl) (by simp) ?_
              refine AllReadyH.cons rfl (fun K hK => ?_) ?_
              · have c0 := z66_2_7_5.cell 0
                have f0 := z66_2_7_5.frozen 0
                have c1 := z66_2_7_5.cell 1
                have f1 := z66_2_7_5.frozen 1
                have c2 := z66_2_7_5.cell 2
                have f2 := z66_2_7_5.frozen 2
                have c3 := z66_2_7_5.cell 3
                have f3 := z66_2_7_5.frozen 3
                simp only [List.getElem?_toArray, List.getElem?_cons_zero, List.getElem?_cons_succ] at c0 c1 c2 c3
                go_simp
                have kb6_2_7_5_8 : Fr q.wr w8 ((((((u6_2_7_5).setCell ⟨w8.heap.size, 0, none⟩ (.int .i64 0)).setCell ⟨w8.heap.size, 1, none⟩ (.int .i64 hv)).setCell ⟨w8.heap.size, 2, none⟩ (.int .i64 st)).setCell ⟨w8.heap.size, 3, none⟩ (.int .i64 0))) := keep_set4 kb6_2_7_5 (by omega)
                have bb6_2_7_5_8 : BkS ((((((u6_2_7_5).setCell ⟨w8.heap.size, 0, none⟩ (.int .i64 0)).setCell ⟨w8.heap.size, 1, none⟩ (.int .i64 hv)).setCell ⟨w8.heap.size, 2, none⟩ (.int .i64 st)).setCell ⟨w8.heap.size, 3, none⟩ (.int .i64 0))) q b := bb6_2_7_5.fr (fr_set4 (u6_2_7_5) (w8.heap.size) (.int .i64 0) (.int .i64 hv) (.int .i64 st) (.int .i64 0)) (fun i hi e => by have h1 := HLT.out i hi; have : i = w8.heap.size := e; omega)
                have z66_2_7_5_8 : Blk ((((((u6_2_7_5).setCell ⟨w8.heap.size, 0, none⟩ (.int .i64 0)).setCell ⟨w8.heap.size, 1, none⟩ (.int .i64 hv)).setCell ⟨w8.heap.size, 2, none⟩ (.int .i64 st)).setCell ⟨w8.heap.size, 3, none⟩ (.int .i64 0))) (w8.heap.size) 29 #[.int .i64 0, .int .i64 hv, .int .i64 st, .int .i64 0] := blk_set4 z66_2_7_5 (.int .i64 0) (.int .i64 hv) (.int .i64 st) (.int .i64 0)
                have z76_2_7_5_8 : Blk ((((((u6_2_7_5).setCell ⟨w8.heap.size, 0, none⟩ (.int .i64 0)).setCell ⟨w8.heap.size, 1, none⟩ (.int .i64 hv)).setCell ⟨w8.heap.size, 2, none⟩ (.int .i64 st)).setCell ⟨w8.heap.size, 3, none⟩ (.int .i64 0))) (u6_2.heap.size) 29 #[.int .i64 0, .int .i64 0, .int .i64 0, .int .i64 0] := (z76_2_7_5).fr (fr_set4 (u6_2_7_5) (w8.heap.size) (.int .i64 0) (.int .i64 hv) (.int .i64 st) (.int .i64 0)) (fun e => by have : u6_2.heap.size = w8.heap.size := e; omega)
                have kk6_2_7_5_8 : Fr q.wr w8 ((((((u6_2_7_5).setCell ⟨w8.heap.size, 0, none⟩ (.int .i64 0)).setCell ⟨w8.heap.size, 1, none⟩ (.int .i64 hv)).setCell ⟨w8.heap.size, 2, none⟩ (.int .i64 st)).setCell ⟨w8.heap.size, 3, none⟩ (.int .i64 0))) := kb6_2_7_5_8
                refine hK.out _ _ ?_ (fun hH5 => ?_)
                · exact HX.out _ kk6_2_7_5_8
                clear hK K
                (try simp only [Act.put, List.getElem_toArray, List.getElem_cons_zero, List.getElem_cons_succ, List.setIfInBounds_toArray, List.set_cons_zero, List.set_cons_succ])
                refine wpAnyH_ready (rs := [9]) (by kernel_rfl) (by simp) ?_
                refine AllReadyH.cons rfl (fun K hK => ?_) ?_
                · have c0 := z76_2_7_5_8.cell 0
                  have f0 := z76_2_7_5_8.frozen 0
                  have c1 := z76_2_7_5_8.cell 1
                  have f1 := z76_2_7_5_8.frozen 1
                  have c2 := z76_2_7_5_8.cell 2
                  have f2 := z76_2_7_5_8.frozen 2
                  have c3 := z76_2_7_5_8.cell 3
                  have f3 := z76_2_7_5_8.frozen 3
                  simp only [List.getElem?_toArray, List.getElem?_cons_zero, List.getElem?_cons_succ] at c0 c1 c2 c3
                  have hne1 : ¬ u6_2.heap.size = w8.heap.size := by omega
                  have hne2 : ¬ w8.heap.size = u6_2.heap.size := by omega
                  have d0 := z76_2_7_5.cell 0
                  have e0 := z76_2_7_5.frozen 0
                  have d1 := z76_2_7_5.cell 1
                  have e1 := z76_2_7_5.frozen 1
                  have d2 := z76_2_7_5.cell 2
                  have e2 := z76_2_7_5.frozen 2
                  have d3 := z76_2_7_5.cell 3
                  have e3 := z76_2_7_5.frozen 3
                  simp only [List.getElem?_toArray, List.getElem?_cons_zero, List.getElem?_cons_succ] at d0 d1 d2 d3
                  go_simp
                  have kb6_2_7_5_8_9 : Fr q.wr w8 ((((((((((u6_2_7_5).setCell ⟨w8.heap.size, 0, none⟩ (.int .i64 0)).setCell ⟨w8.heap.size, 1, none⟩ (.int .i64 hv)).setCell ⟨w8.heap.size, 2, none⟩ (.int .i64 st)).setCell ⟨w8.heap.size, 3, none⟩ (.int .i64 0)).setCell ⟨u6_2.heap.size, 0, none⟩ (.int .i64 6)).setCell ⟨u6_2.heap.size, 1, none⟩ (.int .i64 0)).setCell ⟨u6_2.heap.size, 2, none⟩ (.int .i64 0)).setCell ⟨u6_2.heap.size, 3, none⟩ (.int .i64 0))) := keep_set4 kb6_2_7_5_8 (by omega)
                  have bb6_2_7_5_8_9 : BkS ((((((((((u6_2_7_5).setCell ⟨w8.heap.size, 0, none⟩ (.int .i64 0)).setCell ⟨w8.heap.size, 1, none⟩ (.int .i64 hv)).setCell ⟨w8.heap.size, 2, none⟩ (.int .i64 st)).setCell ⟨w8.heap.size, 3, none⟩ (.int .i64 0)).setCell ⟨u6_2.heap.size, 0, none⟩ (.int .i64 6)).setCell ⟨u6_2.heap.size, 1, none⟩ (.int .i64 0)).setCell ⟨u6_2.heap.size, 2, none⟩ (.int .i64 0)).setCell ⟨u6_2.heap.size, 3, none⟩ (.int .i64 0))) q b := bb6_2_7_5_8.fr (fr_set4 (((((u6_2_7_5).setCell ⟨w8.heap.size, 0, none⟩ (.int .i64 0)).setCell ⟨w8.heap.size, 1, none⟩ (.int .i64 hv)).setCell ⟨w8.heap.size, 2, none⟩ (.int .i64 st)).setCell ⟨w8.heap.size, 3, none⟩ (.int .i64 0)) (u6_2.heap.size) (.int .i64 6) (.int .i64 0) (.int .i64 0) (.int .i64 0)) (fun i hi e => by have h1 := HLT.out i hi; have : i = u6_2.heap.size := e; omega)
                  have z76_2_7_5_8_9 : Blk ((((((((((u6_2_7_5).setCell ⟨w8.heap.size, 0, none⟩ (.int .i64 0)).setCell ⟨w8.heap.size, 1, none⟩ (.int .i64 hv)).setCell ⟨w8.heap.size, 2, none⟩ (.int .i64 st)).setCell ⟨w8.heap.size, 3, none⟩ (.int .i64 0)).setCell ⟨u6_2.heap.size, 0, none⟩ (.int .i64 6)).setCell ⟨u6_2.heap.size, 1, none⟩ (.int .i64 0)).setCell ⟨u6_2.heap.size, 2, none⟩ (.int .i64 0)).setCell ⟨u6_2.heap.size, 3, none⟩ (.int .i64 0))) (u6_2.heap.size) 29 #[.int .i64 6, .int .i64 0, .int .i64 0, .int .i64 0] := blk_set4 z76_2_7_5_8 (.int .i64 6) (.int .i64 0) (.int .i64 0) (.int .i64 0)
                  have z66_2_7_5_8_9 : Blk ((((((((((u6_2_7_5).setCell ⟨w8.heap.size, 0, none⟩ (.int .i64 0)).setCell ⟨w8.heap.size, 1, none⟩ (.int .i64 hv)).setCell ⟨w8.heap.size, 2, none⟩ (.int .i64 st)).setCell ⟨w8.heap.size, 3, none⟩ (.int .i64 0)).setCell ⟨u6_2.heap.size, 0, none⟩ (.int .i64 6)).setCell ⟨u6_2.heap.size, 1, none⟩ (.int .i64 0)).setCell ⟨u6_2.heap.size, 2, none⟩ (.int .i64 0)).setCell ⟨u6_2.heap.size, 3, none⟩ (.int .i64 0))) (w8.heap.size) 29 #[.int .i64 0, .int .i64 hv, .int .i64 st, .int .i64 0] := (z66_2_7_5_8).fr (fr_set4 (((((u6_2_7_5).setCell ⟨w8.heap.size, 0, none⟩ (.int .i64 0)).setCell ⟨w8.heap.size, 1, none⟩ (.int .i64 hv)).setCell ⟨w8.heap.size, 2, none⟩ (.int .i64 st)).setCell ⟨w8.heap.size, 3, none⟩ (.int .i64 0)) (u6_2.heap.size) (.int .i64 6) (.int .i64 0) (.int .i64 0) (.int .i64 0)) (fun e => by have : w8.heap.size = u6_2.heap.size := e; omega)
                  have kk6_2_7_5_8_9 : Fr q.wr w8 ((((((((((u6_2_7_5).setCell ⟨w8.heap.size, 0, none⟩ (.int .i64 0)).setCell ⟨w8.heap.size, 1, none⟩ (.int .i64 hv)).setCell ⟨w8.heap.size, 2, none⟩ (.int .i64 st)).setCell ⟨w8.heap.size, 3, none⟩ (.int .i64 0)).setCell ⟨u6_2.heap.size, 0, none⟩ (.int .i64 6)).setCell ⟨u6_2.heap.size, 1, none⟩ (.int .i64 0)).setCell ⟨u6_2.heap.size, 2, none⟩ (.int .i64 0)).setCell ⟨u6_2.heap.size, 3, none⟩ (.int .i64 0))) := kb6_2_7_5_8_9
                  refine hK.out _ _ ?_ (fun hH6 => ?_)
                  · exact HX.out _ kk6_2_7_5_8_9
                  clear hK K
                  (try simp only [Act.put, List.getElem_toArray, List.getElem_cons_zero, List.getElem_cons_succ, List.setIfInBounds_toArray, List.set_cons_zero, List.set_cons_succ])
                  refine wpAnyH_done (by kernel_rfl) ?_ _
                  have hend : BhEnd q b hv st w8 (.pointer (some ⟨w8.heap.size, 0, none⟩)) (.pointer (some ⟨u6_2.heap.size, 0, none⟩)) ((((((((((u6_2_7_5).setCell ⟨w8.heap.size, 0, none⟩ (.int .i64 0)).setCell ⟨w8.heap.size, 1, none⟩ (.int .i64 hv)).setCell ⟨w8.heap.size, 2, none⟩ (.int .i64 st)).setCell ⟨w8.heap.size, 3, none⟩ (.int .i64 0)).setCell ⟨u6_2.heap.size, 0, none⟩ (.int .i64 6)).setCell ⟨u6_2.heap.size, 1, none⟩ (.int .i64 0)).setCell ⟨u6_2.heap.size, 2, none⟩ (.int .i64 0)).setCell ⟨u6_2.heap.size, 3, none⟩ (.int .i64 0))) := ⟨w8.heap.size, u6_2.heap.size, rfl, rfl, (z66_2_7_5_8_9), (z76_2_7_5_8_9), bb6_2_7_5_8_9.no (Fr.refl _ _), kk6_2_7_5_8_9⟩
                  go_wp2
                  go_meet
                  exact hend
                exact AllReadyH.nil
              exact AllReadyH.nil
            exact AllReadyH.nil
          exact AllReadyH.nil
        refine AllReadyH.cons rfl (fun K hK => ?_) ?_
        · go_simp
          refine hK.out _ _ ?_ (fun hH2 => ?_)
          · exact HX.out _ ((((k0).alloc _).alloc _).drew)
          clear hK K
          (try simp only [Act.put, List.getElem_toArray, List.getElem_cons_zero, List.getElem_cons_succ, List.setIfInBounds_toArray, List.set_cons_zero, List.set_cons_succ])
          refine wpAnyH_ready (rs := [2]) (by kernel_rfl) (by simp) ?_
          refine AllReadyH.cons rfl (fun K hK => ?_) ?_
          · go_simp
            have b_ : BkS (((((w8)).alloc (.cells #[.int .i64 0, .int .i64 0, .int .i64 0, .int .i64 0] 29)).alloc (.cells #[.int .i64 0, .int .i64 0, .int .i64 0, .int .i64 0] 29)).drew) q B := b0.no ((((Fr.refl _ _).alloc _).alloc _).drew)
            (with_reducible refine (HD1.out _ b_).mono ?_)
            rintro e u6_7_2 ⟨rfl, bb6_7_2, hg⟩
            have kw : Fr q.wr w8 (((((w8)).alloc (.cells #[.int .i64 0, .int .i64 0, .int .i64 0, .int .i64 0] 29)).alloc (.cells #[.int .i64 0, .int .i64 0, .int .i64 0, .int .i64 0] 29)).drew) := (((k0).alloc _).alloc _).drew
            have kb6_7_2 : Fr q.wr w8 u6_7_2 := Fr.trans kw hg
            have z66_7_2 : Blk u6_7_2 (w8.heap.size) 29 #[.int .i64 0, .int .i64 0, .int .i64 0, .int .i64 0] := by
              have h := Blk.new ((w8)) 29 #[.int .i64 0, .int .i64 0, .int .i64 0, .int .i64 0]
              exact (((h).alloc _).drew).fr hg (HFAR.out _ (by have := (k0).size; omega))
            have z76_7_2 : Blk u6_7_2 (w8.heap.size + 1) 29 #[.int .i64 0, .int .i64 0, .int .i64 0, .int .i64 0] := by
              have h := Blk.new (((w8)).alloc (.cells #[.int .i64 0, .int .i64 0, .int .i64 0, .int .i64 0] 29)) 29 #[.int .i64 0, .int .i64 0, .int .i64 0, .int .i64 0]
              simp only [World.size_alloc] at h
              exact ((h).drew).fr hg (HFAR.out _ (by have := (k0).size; omega))
            clear b_ kw hg
            have hs6_7_2 : w8.heap.size ≤ u6_7_2.heap.size := (kb6_7_2).size
            have hl66_7_2 : w8.heap.size < u6_7_2.heap.size := z66_7_2.lt
            have hl76_7_2 : w8.heap.size + 1 < u6_7_2.heap.size := z76_7_2.lt
            refine hK.out _ _ ?_ (fun hH3 => ?_)
            · exact HX.out _ (kb6_7_2)
            clear hK K
            (try simp only [Act.put, List.getElem_toArray, List.getElem_cons_zero, List.getElem_cons_succ, List.setIfInBounds_toArray, List.set_cons_zero, List.set_cons_succ])
            refine wpAnyH_ready (rs := [5]) (by kernel_rfl) (by simp) ?_
            refine AllReadyH.cons rfl (fun K hK => ?_) ?_
            · go_simp
              have b_ : BkS ((u6_7_2)) q b := bb6_7_2.no (Fr.refl _ _)
              (with_reducible refine (HD2.out _ b_).mono ?_)
              rintro e u6_7_2_5 ⟨rfl, bb6_7_2_5, hg⟩
              have kw : Fr q.wr w8 ((u6_7_2)) := kb6_7_2
              have kb6_7_2_5 : Fr q.wr w8 u6_7_2_5 := Fr.trans kw hg
              have z66_7_2_5 : Blk u6_7_2_5 (w8.heap.size) 29 #[.int .i64 0, .int .i64 0, .int .i64 0, .int .i64 0] := (z66_7_2).fr hg (HFAR.out _ (by have := (kb6_7_2).size; omega))
              have z76_7_2_5 : Blk u6_7_2_5 (w8.heap.size + 1) 29 #[.int .i64 0, .int .i64 0, .int .i64 0, .int .i64 0] := (z76_7_2).fr hg (HFAR.out _ (by have := (kb6_7_2).size; omega))
              clear b_ kw hg
              have hs6_7_2_5 : w8.heap.size ≤ u6_7_2_5.heap.size := (kb6_7_2_5).size
              have hl66_7_2_5 : w8.heap.size < u6_7_2_5.heap.size := z66_7_2_5.lt
              have hl76_7_2_5 : w8.heap.size + 1 < u6_7_2_5.heap.size := z76_7_2_5.lt
              refine hK.out _ _ ?_ (fun hH4 => ?_)
              · exact HX.out _ (kb6_7_2_5)
              clear hK K
              (try simp only [Act.put, List.getElem_toArray, List.getElem_cons_zero, List.getElem_cons_succ, List.setIfInBounds_toArray, List.set_cons_zero, List.set_cons_succ])
              refine wpAnyH_ready (rs := [8]) (by kernel_rfl) (by simp) ?_
              refine AllReadyH.cons rfl (fun K hK => ?_) ?_
              · have c0 := z66_7_2_5.cell 0
                have f0 := z66_7_2_5.frozen 0
                have c1 := z66_7_2_5.cell 1
                have f1 := z66_7_2_5.frozen 1
                have c2 := z66_7_2_5.cell 2
                have f2 := z66_7_2_5.frozen 2
                have c3 := z66_7_2_5.cell 3
                have f3 := z66_7_2_5.frozen 3
                simp only [List.getElem?_toArray, List.getElem?_cons_zero, List.getElem?_cons_succ] at c0 c1 c2 c3
                go_simp
                have kb6_7_2_5_8 : Fr q.wr w8 ((((((u6_7_2_5).setCell ⟨w8.heap.size, 0, none⟩ (.int .i64 0)).setCell ⟨w8.heap.size, 1, none⟩ (.int .i64 hv)).setCell ⟨w8.heap.size, 2, none⟩ (.int .i64 st)).setCell ⟨w8.heap.size, 3, none⟩ (.int .i64 0))) := keep_set4 kb6_7_2_5 (by omega)
                have bb6_7_2_5_8 : BkS ((((((u6_7_2_5).setCell ⟨w8.heap.size, 0, none⟩ (.int .i64 0)).setCell ⟨w8.heap.size, 1, none⟩ (.int .i64 hv)).setCell ⟨w8.heap.size, 2, none⟩ (.int .i64 st)).setCell ⟨w8.heap.size, 3, none⟩ (.int .i64 0))) q b := bb6_7_2_5.fr (fr_set4 (u6_7_2_5) (w8.heap.size) (.int .i64 0) (.int .i64 hv) (.int .i64 st) (.int .i64 0)) (fun i hi e => by have h1 := HLT.out i hi; have : i = w8.heap.size := e; omega)
                have z66_7_2_5_8 : Blk ((((((u6_7_2_5).setCell ⟨w8.heap.size, 0, none⟩ (.int .i64 0)).setCell ⟨w8.heap.size, 1, none⟩ (.int .i64 hv)).setCell ⟨w8.heap.size, 2, none⟩ (.int .i64 st)).setCell ⟨w8.heap.size, 3, none⟩ (.int .i64 0))) (w8.heap.size) 29 #[.int .i64 0, .int .i64 hv, .int .i64 st, .int .i64 0] := blk_set4 z66_7_2_5 (.int .i64 0) (.int .i64 hv) (.int .i64 st) (.int .i64 0)
                have z76_7_2_5_8 : Blk ((((((u6_7_2_5).setCell ⟨w8.heap.size, 0, none⟩ (.int .i64 0)).setCell ⟨w8.heap.size, 1, none⟩ (.int .i64 hv)).setCell ⟨w8.heap.size, 2, none⟩ (.int .i64 st)).setCell ⟨w8.heap.size, 3, none⟩ (.int .i64 0))) (w8.heap.size + 1) 29 #[.int .i64 0, .int .i64 0, .int .i64 0, .int .i64 0] := (z76_7_2_5).fr (fr_set4 (u6_7_2_5) (w8.heap.size) (.int .i64 0) (.int .i64 hv) (.int .i64 st) (.int .i64 0)) (fun e => by have : w8.heap.size + 1 = w8.heap.size := e; omega)
                have kk6_7_2_5_8 : Fr q.wr w8 ((((((u6_7_2_5).setCell ⟨w8.heap.size, 0, none⟩ (.int .i64 0)).setCell ⟨w8.heap.size, 1, none⟩ (.int .i64 hv)).setCell ⟨w8.heap.size, 2, none⟩ (.int .i64 st)).setCell ⟨w8.heap.size, 3, none⟩ (.int .i64 0))) := kb6_7_2_5_8
                refine hK.out _ _ ?_ (fun hH5 => ?_)
                · exact HX.out _ kk6_7_2_5_8
                clear hK K
                (try simp only [Act.put, List.getElem_toArray, List.getElem_cons_zero, List.getElem_cons_succ, List.setIfInBounds_toArray, List.set_cons_zero, List.set_cons_succ])
                refine wpAnyH_ready (rs := [9]) (by kernel_rfl) (by simp) ?_
                refine AllReadyH.cons rfl (fun K hK => ?_) ?_
                · have c0 := z76_7_2_5_8.cell 0
                  have f0 := z76_7_2_5_8.frozen 0
                  have c1 := z76_7_2_5_8.cell 1
                  have f1 := z76_7_2_5_8.frozen 1
                  have c2 := z76_7_2_5_8.cell 2
                  have f2 := z76_7_2_5_8.frozen 2
                  have c3 := z76_7_2_5_8.cell 3
                  have f3 := z76_7_2_5_8.frozen 3
                  simp only [List.getElem?_toArray, List.getElem?_cons_zero, List.getElem?_cons_succ] at c0 c1 c2 c3
                  have hne1 : ¬ w8.heap.size + 1 = w8.heap.size := by omega
                  have hne2 : ¬ w8.heap.size = w8.heap.size + 1 := by omega
                  have d0 := z76_7_2_5.cell 0
                  have e0 := z76_7_2_5.frozen 0
                  have d1 := z76_7_2_5.cell 1
                  have e1 := z76_7_2_5.frozen 1
                  have d2 := z76_7_2_5.cell 2
                  have e2 := z76_7_2_5.frozen 2
                  have d3 := z76_7_2_5.cell 3
                  have e3 := z76_7_2_5.frozen 3
                  simp only [List.getElem?_toArray, List.getElem?_cons_zero, List.getElem?_cons_succ] at d0 d1 d2 d3
                  go_simp
                  have kb6_7_2_5_8_9 : Fr q.wr w8 ((((((((((u6_7_2_5).setCell ⟨w8.heap.size, 0, none⟩ (.int .i64 0)).setCell ⟨w8.heap.size, 1, none⟩ (.int .i64 hv)).setCell ⟨w8.heap.size, 2, none⟩ (.int .i64 st)).setCell ⟨w8.heap.size, 3, none⟩ (.int .i64 0)).setCell ⟨w8.heap.size + 1, 0, none⟩ (.int .i64 6)).setCell ⟨w8.heap.size + 1, 1, none⟩ (.int .i64 0)).setCell ⟨w8.heap.size + 1, 2, none⟩ (.int .i64 0)).setCell ⟨w8.heap.size + 1, 3, none⟩ (.int .i64 0))) := keep_set4 kb6_7_2_5_8 (by omega)
                  have bb6_7_2_5_8_9 : BkS ((((((((((u6_7_2_5).setCell ⟨w8.heap.size, 0, none⟩ (.int .i64 0)).setCell ⟨w8.heap.size, 1, none⟩ (.int .i64 hv)).setCell ⟨w8.heap.size, 2, none⟩ (.int .i64 st)).setCell ⟨w8.heap.size, 3, none⟩ (.int .i64 0)).setCell ⟨w8.heap.size + 1, 0, none⟩ (.int .i64 6)).setCell ⟨w8.heap.size + 1, 1, none⟩ (.int .i64 0)).setCell ⟨w8.heap.size + 1, 2, none⟩ (.int .i64 0)).setCell ⟨w8.heap.size + 1, 3, none⟩ (.int .i64 0))) q b := bb6_7_2_5_8.fr (fr_set4 (((((u6_7_2_5).setCell ⟨w8.heap.size, 0, none⟩ (.int .i64 0)).setCell ⟨w8.heap.size, 1, none⟩ (.int .i64 hv)).setCell ⟨w8.heap.size, 2, none⟩ (.int .i64 st)).setCell ⟨w8.heap.size, 3, none⟩ (.int .i64 0)) (w8.heap.size + 1) (.int .i64 6) (.int .i64 0) (.int .i64 0) (.int .i64 0)) (fun i hi e => by have h1 := HLT.out i hi; have : i = w8.heap.size + 1 := e; omega)
                  have z76_7_2_5_8_9 : Blk ((((((((((u6_7_2_5).setCell ⟨w8.heap.size, 0, none⟩ (.int .i64 0)).setCell ⟨w8.heap.size, 1, none⟩ (.int .i64 hv)).setCell ⟨w8.heap.size, 2, none⟩ (.int .i64 st)).setCell ⟨w8.heap.size, 3, none⟩ (.int .i64 0)).setCell ⟨w8.heap.size + 1, 0, none⟩ (.int .i64 6)).setCell ⟨w8.heap.size + 1, 1, none⟩ (.int .i64 0)).setCell ⟨w8.heap.size + 1, 2, none⟩ (.int .i64 0)).setCell ⟨w8.heap.size + 1, 3, none⟩ (.int .i64 0))) (w8.heap.size + 1) 29 #[.int .i64 6, .int .i64 0, .int .i64 0, .int .i64 0] := blk_set4 z76_7_2_5_8 (.int .i64 6) (.int .i64 0) (.int .i64 0) (.int .i64 0)
                  have z66_7_2_5_8_9 : Blk ((((((((((u6_7_2_5).setCell ⟨w8.heap.size, 0, none⟩ (.int .i64 0)).setCell ⟨w8.heap.size, 1, none⟩ (.int .i64 hv)).setCell ⟨w8.heap.size, 2, none⟩ (.int .i64 st)).setCell ⟨w8.heap.size, 3, none⟩ (.int .i64 0)).setCell ⟨w8.heap.size + 1, 0, none⟩ (.int .i64 6)).setCell ⟨w8.heap.size + 1, 1, none⟩ (.int .i64 0)).setCell ⟨w8.heap.size + 1, 2, none⟩ (.int .i64 0)).setCell ⟨w8.heap.size + 1, 3, none⟩ (.int .i64 0))) (w8.heap.size) 29 #[.int .i64 0, .int .i64 hv, .int .i64 st, .int .i64 0] := (z66_7_2_5_8).fr (fr_set4 (((((u6_7_2_5).setCell ⟨w8.heap.size, 0, none⟩ (.int .i64 0)).setCell ⟨w8.heap.size, 1, none⟩ (.int .i64 hv)).setCell ⟨w8.heap.size, 2, none⟩ (.int .i64 st)).setCell ⟨w8.heap.size, 3, none⟩ (.int .i64 0)) (w8.heap.size + 1) (.int .i64 6) (.int .i64 0) (.int .i64 0) (.int .i64 0)) (fun e => by have : w8.heap.size = w8.heap.size + 1 := e; omega)
                  have kk6_7_2_5_8_9 : Fr q.wr w8 ((((((((((u6_7_2_5).setCell ⟨w8.heap.size, 0, none⟩ (.int .i64 0)).setCell ⟨w8.heap.size, 1, none⟩ (.int .i64 hv)).setCell ⟨w8.heap.size, 2, none⟩ (.int .i64 st)).setCell ⟨w8.heap.size, 3, none⟩ (.int .i64 0)).setCell ⟨w8.heap.size + 1, 0, none⟩ (.int .i64 6)).setCell ⟨w8.heap.size + 1, 1, none⟩ (.int .i64 0)).setCell ⟨w8.heap.size + 1, 2, none⟩ (.int .i64 0)).setCell ⟨w8.heap.size + 1, 3, none⟩ (.int .i64 0))) := kb6_7_2_5_8_9
                  refine hK.out _ _ ?_ (fun hH6 => ?_)
                  · exact HX.out _ kk6_7_2_5_8_9
                  clear hK K
                  (try simp only [Act.put, List.getElem_toArray, List.getElem_cons_zero, List.getElem_cons_succ, List.setIfInBounds_toArray, List.set_cons_zero, List.set_cons_succ])
                  refine wpAnyH_done (by kernel_rfl) ?_ _
                  have hend : BhEnd q b hv st w8 (.pointer (some ⟨w8.heap.size, 0, none⟩)) (.pointer (some ⟨w8.heap.size + 1, 0, none⟩)) ((((((((((u6_7_2_5).setCell ⟨w8.heap.size, 0, none⟩ (.int .i64 0)).setCell ⟨w8.heap.size, 1, none⟩ (.int .i64 hv)).setCell ⟨w8.heap.size, 2, none⟩ (.int .i64 st)).setCell ⟨w8.heap.size, 3, none⟩ (.int .i64 0)).setCell ⟨w8.heap.size + 1, 0, none⟩ (.int .i64 6)).setCell ⟨w8.heap.size + 1, 1, none⟩ (.int .i64 0)).setCell ⟨w8.heap.size + 1, 2, none⟩ (.int .i64 0)).setCell ⟨w8.heap.size + 1, 3, none⟩ (.int .i64 0))) := ⟨w8.heap.size, w8.heap.size + 1, rfl, rfl, (z66_7_2_5_8_9), (z76_7_2_5_8_9), bb6_7_2_5_8_9.no (Fr.refl _ _), kk6_7_2_5_8_9⟩
                  go_wp2
                  go_meet
                  exact hend
                exact AllReadyH.nil
              exact AllReadyH.nil
            exact AllReadyH.nil
          exact AllReadyH.nil
        exact AllReadyH.nil
      refine AllReadyH.cons rfl (fun K hK => ?_) ?_
      · go_simp
        refine hK.out _ _ ?_ (fun hH1 => ?_)
        · exact HX.out _ (((k0).alloc _).drew)
        clear hK K
        (try simp only [Act.put, List.getElem_toArray, List.getElem_cons_zero, List.getElem_cons_succ, List.setIfInBounds_toArray, List.set_cons_zero, List.set_cons_succ])
        refine wpAnyH_ready (rs := [2, 6]) (by kernel_rfl) (by simp) ?_
        refine AllReadyH.cons rfl (fun K hK => ?_) ?_
        · go_simp
          have b_ : BkS ((((w8)).alloc (.cells #[.int .i64 0, .int .i64 0, .int .i64 0, .int .i64 0] 29)).drew) q B := b0.no (((Fr.refl _ _).alloc _).drew)
          (with_reducible refine (HD1.out _ b_).mono ?_)
          rintro e u7_2 ⟨rfl, bb7_2, hg⟩
          have kw : Fr q.wr w8 ((((w8)).alloc (.cells #[.int .i64 0, .int .i64 0, .int .i64 0, .int .i64 0] 29)).drew) := ((k0).alloc _).drew
          have kb7_2 : Fr q.wr w8 u7_2 := Fr.trans kw hg
          have z77_2 : Blk u7_2 (w8.heap.size) 29 #[.int .i64 0, .int .i64 0, .int .i64 0, .int .i64 0] := by
            have h := Blk.new ((w8)) 29 #[.int .i64 0, .int .i64 0, .int .i64 0, .int .i64 0]
            exact ((h).drew).fr hg (HFAR.out _ (by have := (k0).size; omega))
          clear b_ kw hg
          have hs7_2 : w8.heap.size ≤ u7_2.heap.size := (kb7_2).size
          have hl77_2 : w8.heap.size < u7_2.heap.size := z77_2.lt
          refine hK.out _ _ ?_ (fun hH2 => ?_)
          · exact HX.out _ (kb7_2)
          clear hK K
          (try simp only [Act.put, List.getElem_toArray, List.getElem_cons_zero, List.getElem_cons_succ, List.setIfInBounds_toArray, List.set_cons_zero, List.set_cons_succ])
          refine wpAnyH_ready (rs := [5, 6]) (by kernel_rfl) (by simp) ?_
          refine AllReadyH.cons rfl (fun K hK => ?_) ?_
          · go_simp
            have b_ : BkS ((u7_2)) q b := bb7_2.no (Fr.refl _ _)
            (with_reducible refine (HD2.out _ b_).mono ?_)
            rintro e u7_2_5 ⟨rfl, bb7_2_5, hg⟩
            have kw : Fr q.wr w8 ((u7_2)) := kb7_2
            have kb7_2_5 : Fr q.wr w8 u7_2_5 := Fr.trans kw hg
            have z77_2_5 : Blk u7_2_5 (w8.heap.size) 29 #[.int .i64 0, .int .i64 0, .int .i64 0, .int .i64 0] := (z77_2).fr hg (HFAR.out _ (by have := (kb7_2).size; omega))
            clear b_ kw hg
            have hs7_2_5 : w8.heap.size ≤ u7_2_5.heap.size := (kb7_2_5).size
            have hl77_2_5 : w8.heap.size < u7_2_5.heap.size := z77_2_5.lt
            refine hK.out _ _ ?_ (fun hH3 => ?_)
            · exact HX.out _ (kb7_2_5)
            clear hK K
            (try simp only [Act.put, List.getElem_toArray, List.getElem_cons_zero, List.getElem_cons_succ, List.setIfInBounds_toArray, List.set_cons_zero, List.set_cons_succ])
            refine wpAnyH_ready (rs := [6]) (by kernel_rfl) (by simp) ?_
            refine AllReadyH.cons rfl (fun K hK => ?_) ?_
            · go_simp
              refine hK.out _ _ ?_ (fun hH4 => ?_)
              · exact HX.out _ ((kb7_2_5).alloc _)
              clear hK K
              (try simp only [Act.put, List.getElem_toArray, List.getElem_cons_zero, List.getElem_cons_succ, List.setIfInBounds_toArray, List.set_cons_zero, List.set_cons_succ])
              refine wpAnyH_ready (rs := [8]) (by kernel_rfl) (by simp) ?_
              refine AllReadyH.cons rfl (fun K hK => ?_) ?_
              · go_simp
                have kk7_2_5_6_8 : Fr q.wr w8 (((u7_2_5)).alloc (.cells #[.int .i64 0, .int .i64 hv, .int .i64 st, .int .i64 0] 29)) := (kb7_2_5).alloc _
                refine hK.out _ _ ?_ (fun hH5 => ?_)
                · exact HX.out _ kk7_2_5_6_8
                clear hK K
                (try simp only [Act.put, List.getElem_toArray, List.getElem_cons_zero, List.getElem_cons_succ, List.setIfInBounds_toArray, List.set_cons_zero, List.set_cons_succ])
                refine wpAnyH_ready (rs := [9]) (by kernel_rfl) (by simp) ?_
                refine AllReadyH.cons rfl (fun K hK => ?_) ?_
                · have c0 := z77_2_5.cell 0
                  have f0 := z77_2_5.frozen 0
                  have c1 := z77_2_5.cell 1
                  have f1 := z77_2_5.frozen 1
                  have c2 := z77_2_5.cell 2
                  have f2 := z77_2_5.frozen 2
                  have c3 := z77_2_5.cell 3
                  have f3 := z77_2_5.frozen 3
                  simp only [List.getElem?_toArray, List.getElem?_cons_zero, List.getElem?_cons_succ] at c0 c1 c2 c3
                  go_simp
                  have kb7_2_5_6_8_9 : Fr q.wr w8 ((((((u7_2_5).setCell ⟨w8.heap.size, 0, none⟩ (.int .i64 6)).setCell ⟨w8.heap.size, 1, none⟩ (.int .i64 0)).setCell ⟨w8.heap.size, 2, none⟩ (.int .i64 0)).setCell ⟨w8.heap.size, 3, none⟩ (.int .i64 0))) := keep_set4 kb7_2_5 (by omega)
                  have bb7_2_5_6_8_9 : BkS ((((((u7_2_5).setCell ⟨w8.heap.size, 0, none⟩ (.int .i64 6)).setCell ⟨w8.heap.size, 1, none⟩ (.int .i64 0)).setCell ⟨w8.heap.size, 2, none⟩ (.int .i64 0)).setCell ⟨w8.heap.size, 3, none⟩ (.int .i64 0))) q b := bb7_2_5.fr (fr_set4 (u7_2_5) (w8.heap.size) (.int .i64 6) (.int .i64 0) (.int .i64 0) (.int .i64 0)) (fun i hi e => by have h1 := HLT.out i hi; have : i = w8.heap.size := e; omega)
                  have z77_2_5_6_8_9 : Blk ((((((u7_2_5).setCell ⟨w8.heap.size, 0, none⟩ (.int .i64 6)).setCell ⟨w8.heap.size, 1, none⟩ (.int .i64 0)).setCell ⟨w8.heap.size, 2, none⟩ (.int .i64 0)).setCell ⟨w8.heap.size, 3, none⟩ (.int .i64 0))) (w8.heap.size) 29 #[.int .i64 6, .int .i64 0, .int .i64 0, .int .i64 0] := blk_set4 z77_2_5 (.int .i64 6) (.int .i64 0) (.int .i64 0) (.int .i64 0)
                  have kk7_2_5_6_8_9 : Fr q.wr w8 (((((((u7_2_5).setCell ⟨w8.heap.size, 0, none⟩ (.int .i64 6)).setCell ⟨w8.heap.size, 1, none⟩ (.int .i64 0)).setCell ⟨w8.heap.size, 2, none⟩ (.int .i64 0)).setCell ⟨w8.heap.size, 3, none⟩ (.int .i64 0))).alloc (.cells #[.int .i64 0, .int .i64 hv, .int .i64 st, .int .i64 0] 29)) := (kb7_2_5_6_8_9).alloc _
                  refine hK.out _ _ ?_ (fun hH6 => ?_)
                  · exact HX.out _ kk7_2_5_6_8_9
                  clear hK K
                  (try simp only [Act.put, List.getElem_toArray, List.getElem_cons_zero, List.getElem_cons_succ, List.setIfInBounds_toArray, List.set_cons_zero, List.set_cons_succ])
                  refine wpAnyH_done (by kernel_rfl) ?_ _
                  have hend : BhEnd q b hv st w8 (.pointer (some ⟨u7_2_5.heap.size, 0, none⟩)) (.pointer (some ⟨w8.heap.size, 0, none⟩)) (((((((u7_2_5).setCell ⟨w8.heap.size, 0, none⟩ (.int .i64 6)).setCell ⟨w8.heap.size, 1, none⟩ (.int .i64 0)).setCell ⟨w8.heap.size, 2, none⟩ (.int .i64 0)).setCell ⟨w8.heap.size, 3, none⟩ (.int .i64 0))).alloc (.cells #[.int .i64 0, .int .i64 hv, .int .i64 st, .int .i64 0] 29)) := ⟨u7_2_5.heap.size, w8.heap.size, rfl, rfl, (by have h := Blk.new ((((((u7_2_5).setCell ⟨w8.heap.size, 0, none⟩ (.int .i64 6)).setCell ⟨w8.heap.size, 1, none⟩ (.int .i64 0)).setCell ⟨w8.heap.size, 2, none⟩ (.int .i64 0)).setCell ⟨w8.heap.size, 3, none⟩ (.int .i64 0))) 29 #[.int .i64 0, .int .i64 hv, .int .i64 st, .int .i64 0]; (try simp only [World.size_alloc, size_set4] at h); exact h), ((z77_2_5_6_8_9).alloc _), bb7_2_5_6_8_9.no ((Fr.refl _ _).alloc _), kk7_2_5_6_8_9⟩
                  go_wp2
                  go_meet
                  exact hend
                exact AllReadyH.nil
              exact AllReadyH.nil
            exact AllReadyH.nil
          refine AllReadyH.cons rfl (fun K hK => ?_) ?_
          · go_simp
            refine hK.out _ _ ?_ (fun hH3 => ?_)
            · exact HX.out _ ((kb7_2).alloc _)
            clear hK K
            (try simp only [Act.put, List.getElem_toArray, List.getElem_cons_zero, List.getElem_cons_succ, List.setIfInBounds_toArray, List.set_cons_zero, List.set_cons_succ])
            refine wpAnyH_ready (rs := [5]) (by kernel_rfl) (by simp) ?_
            refine AllReadyH.cons rfl (fun K hK => ?_) ?_
            · go_simp
              have b_ : BkS (((u7_2)).alloc (.cells #[.int .i64 0, .int .i64 0, .int .i64 0, .int .i64 0] 29)) q b := bb7_2.no ((Fr.refl _ _).alloc _)
              (with_reducible refine (HD2.out _ b_).mono ?_)
              rintro e u7_2_6_5 ⟨rfl, bb7_2_6_5, hg⟩
              have kw : Fr q.wr w8 (((u7_2)).alloc (.cells #[.int .i64 0, .int .i64 0, .int .i64 0, .int .i64 0] 29)) := (kb7_2).alloc _
              have kb7_2_6_5 : Fr q.wr w8 u7_2_6_5 := Fr.trans kw hg
              have z77_2_6_5 : Blk u7_2_6_5 (w8.heap.size) 29 #[.int .i64 0, .int .i64 0, .int .i64 0, .int .i64 0] := ((z77_2).alloc _).fr hg (HFAR.out _ (by have := (kb7_2).size; omega))
              have z67_2_6_5 : Blk u7_2_6_5 (u7_2.heap.size) 29 #[.int .i64 0, .int .i64 0, .int .i64 0, .int .i64 0] := by
                have h := Blk.new ((u7_2)) 29 #[.int .i64 0, .int .i64 0, .int .i64 0, .int .i64 0]
                exact (h).fr hg (HFAR.out _ (by have := (kb7_2).size; omega))
              clear b_ kw hg
              have hs7_2_6_5 : w8.heap.size ≤ u7_2_6_5.heap.size := (kb7_2_6_5).size
              have hl77_2_6_5 : w8.heap.size < u7_2_6_5.heap.size := z77_2_6_5.lt
              have hl67_2_6_5 : u7_2.heap.size < u7_2_6_5.heap.size := z67_2_6_5.lt
              refine hK.out _ _ ?_ (fun hH4 => ?_)
              · exact HX.out _ (kb7_2_6_5)
              clear hK K
              (try simp only [Act.put, List.getElem_toArray, List.getElem_cons_zero, List.getElem_cons_succ, List.setIfInBounds_toArray, List.set_cons_zero, List.set_cons_succ])
              refine wpAnyH_ready (rs := [8]) (by kernel_rfl) (by simp) ?_
              refine AllReadyH.cons rfl (fun K hK => ?_) ?_
              · have c0 := z67_2_6_5.cell 0
                have f0 := z67_2_6_5.frozen 0
                have c1 := z67_2_6_5.cell 1
                have f1 := z67_2_6_5.frozen 1
                have c2 := z67_2_6_5.cell 2
                have f2 := z67_2_6_5.frozen 2
                have c3 := z67_2_6_5.cell 3
                have f3 := z67_2_6_5.frozen 3
                simp only [List.getElem?_toArray, List.getElem?_cons_zero, List.getElem?_cons_succ] at c0 c1 c2 c3
                go_simp
                have kb7_2_6_5_8 : Fr q.wr w8 ((((((u7_2_6_5).setCell ⟨u7_2.heap.size, 0, none⟩ (.int .i64 0)).setCell ⟨u7_2.heap.size, 1, none⟩ (.int .i64 hv)).setCell ⟨u7_2.heap.size, 2, none⟩ (.int .i64 st)).setCell ⟨u7_2.heap.size, 3, none⟩ (.int .i64 0))) := keep_set4 kb7_2_6_5 (by omega)
                have bb7_2_6_5_8 : BkS ((((((u7_2_6_5).setCell ⟨u7_2.heap.size, 0, none⟩ (.int .i64 0)).setCell ⟨u7_2.heap.size, 1, none⟩ (.int .i64 hv)).setCell ⟨u7_2.heap.size, 2, none⟩ (.int .i64 st)).setCell ⟨u7_2.heap.size, 3, none⟩ (.int .i64 0))) q b := bb7_2_6_5.fr (fr_set4 (u7_2_6_5) (u7_2.heap.size) (.int .i64 0) (.int .i64 hv) (.int .i64 st) (.int .i64 0)) (fun i hi e => by have h1 := HLT.out i hi; have : i = u7_2.heap.size := e; omega)
                have z67_2_6_5_8 : Blk ((((((u7_2_6_5).setCell ⟨u7_2.heap.size, 0, none⟩ (.int .i64 0)).setCell ⟨u7_2.heap.size, 1, none⟩ (.int .i64 hv)).setCell ⟨u7_2.heap.size, 2, none⟩ (.int .i64 st)).setCell ⟨u7_2.heap.size, 3, none⟩ (.int .i64 0))) (u7_2.heap.size) 29 #[.int .i64 0, .int .i64 hv, .int .i64 st, .int .i64 0] := blk_set4 z67_2_6_5 (.int .i64 0) (.int .i64 hv) (.int .i64 st) (.int .i64 0)
                have z77_2_6_5_8 : Blk ((((((u7_2_6_5).setCell ⟨u7_2.heap.size, 0, none⟩ (.int .i64 0)).setCell ⟨u7_2.heap.size, 1, none⟩ (.int .i64 hv)).setCell ⟨u7_2.heap.size, 2, none⟩ (.int .i64 st)).setCell ⟨u7_2.heap.size, 3, none⟩ (.int .i64 0))) (w8.heap.size) 29 #[.int .i64 0, .int .i64 0, .int .i64 0, .int .i64 0] := (z77_2_6_5).fr (fr_set4 (u7_2_6_5) (u7_2.heap.size) (.int .i64 0) (.int .i64 hv) (.int .i64 st) (.int .i64 0)) (fun e => by have : w8.heap.size = u7_2.heap.size := e; omega)
                have kk7_2_6_5_8 : Fr q.wr w8 ((((((u7_2_6_5).setCell ⟨u7_2.heap.size, 0, none⟩ (.int .i64 0)).setCell ⟨u7_2.heap.size, 1, none⟩ (.int .i64 hv)).setCell ⟨u7_2.heap.size, 2, none⟩ (.int .i64 st)).setCell ⟨u7_2.heap.size, 3, none⟩ (.int .i64 0))) := kb7_2_6_5_8
                refine hK.out _ _ ?_ (fun hH5 => ?_)
                · exact HX.out _ kk7_2_6_5_8
                clear hK K
                (try simp only [Act.put, List.getElem_toArray, List.getElem_cons_zero, List.getElem_cons_succ, List.setIfInBounds_toArray, List.set_cons_zero, List.set_cons_succ])
                refine wpAnyH_ready (rs := [9]) (by kernel_rfl) (by simp) ?_
                refine AllReadyH.cons rfl (fun K hK => ?_) ?_
                · have c0 := z77_2_6_5_8.cell 0
                  have f0 := z77_2_6_5_8.frozen 0
                  have c1 := z77_2_6_5_8.cell 1
                  have f1 := z77_2_6_5_8.frozen 1
                  have c2 := z77_2_6_5_8.cell 2
                  have f2 := z77_2_6_5_8.frozen 2
                  have c3 := z77_2_6_5_8.cell 3
                  have f3 := z77_2_6_5_8.frozen 3
                  simp only [List.getElem?_toArray, List.getElem?_cons_zero, List.getElem?_cons_succ] at c0 c1 c2 c3
                  have hne1 : ¬ w8.heap.size = u7_2.heap.size := by omega
                  have hne2 : ¬ u7_2.heap.size = w8.heap.size := by omega
                  have d0 := z77_2_6_5.cell 0
                  have e0 := z77_2_6_5.frozen 0
                  have d1 := z77_2_6_5.cell 1
                  have e1 := z77_2_6_5.frozen 1
                  have d2 := z77_2_6_5.cell 2
                  have e2 := z77_2_6_5.frozen 2
                  have d3 := z77_2_6_5.cell 3
                  have e3 := z77_2_6_5.frozen 3
                  simp only [List.getElem?_toArray, List.getElem?_cons_zero, List.getElem?_cons_succ] at d0 d1 d2 d3
                  go_simp
                  have kb7_2_6_5_8_9 : Fr q.wr w8 ((((((((((u7_2_6_5).setCell ⟨u7_2.heap.size, 0, none⟩ (.int .i64 0)).setCell ⟨u7_2.heap.size, 1, none⟩ (.int .i64 hv)).setCell ⟨u7_2.heap.size, 2, none⟩ (.int .i64 st)).setCell ⟨u7_2.heap.size, 3, none⟩ (.int .i64 0)).setCell ⟨w8.heap.size, 0, none⟩ (.int .i64 6)).setCell ⟨w8.heap.size, 1, none⟩ (.int .i64 0)).setCell ⟨w8.heap.size, 2, none⟩ (.int .i64 0)).setCell ⟨w8.heap.size, 3, none⟩ (.int .i64 0))) := keep_set4 kb7_2_6_5_8 (by omega)
                  have bb7_2_6_5_8_9 : BkS ((((((((((u7_2_6_5).setCell ⟨u7_2.heap.size, 0, none⟩ (.int .i64 0)).setCell ⟨u7_2.heap.size, 1, none⟩ (.int .i64 hv)).setCell ⟨u7_2.heap.size, 2, none⟩ (.int .i64 st)).setCell ⟨u7_2.heap.size, 3, none⟩ (.int .i64 0)).setCell ⟨w8.heap.size, 0, none⟩ (.int .i64 6)).setCell ⟨w8.heap.size, 1, none⟩ (.int .i64 0)).setCell ⟨w8.heap.size, 2, none⟩ (.int .i64 0)).setCell ⟨w8.heap.size, 3, none⟩ (.int .i64 0))) q b := bb7_2_6_5_8.fr (fr_set4 (((((u7_2_6_5).setCell ⟨u7_2.heap.size, 0, none⟩ (.int .i64 0)).setCell ⟨u7_2.heap.size, 1, none⟩ (.int .i64 hv)).setCell ⟨u7_2.heap.size, 2, none⟩ (.int .i64 st)).setCell ⟨u7_2.heap.size, 3, none⟩ (.int .i64 0)) (w8.heap.size) (.int .i64 6) (.int .i64 0) (.int .i64 0) (.int .i64 0)) (fun i hi e => by have h1 := HLT.out i hi; have : i = w8.heap.size := e; omega)
                  have z77_2_6_5_8_9 : Blk ((((((((((u7_2_6_5).setCell ⟨u7_2.heap.size, 0, none⟩ (.int .i64 0)).setCell ⟨u7_2.heap.size, 1, none⟩ (.int .i64 hv)).setCell ⟨u7_2.heap.size, 2, none⟩ (.int .i64 st)).setCell ⟨u7_2.heap.size, 3, none⟩ (.int .i64 0)).setCell ⟨w8.heap.size, 0, none⟩ (.int .i64 6)).setCell ⟨w8.heap.size, 1, none⟩ (.int .i64 0)).setCell ⟨w8.heap.size, 2, none⟩ (.int .i64 0)).setCell ⟨w8.heap.size, 3, none⟩ (.int .i64 0))) (w8.heap.size) 29 #[.int .i64 6, .int .i64 0, .int .i64 0, .int .i64 0] := blk_set4 z77_2_6_5_8 (.int .i64 6) (.int .i64 0) (.int .i64 0) (.int .i64 0)
                  have z67_2_6_5_8_9 : Blk ((((((((((u7_2_6_5).setCell ⟨u7_2.heap.size, 0, none⟩ (.int .i64 0)).setCell ⟨u7_2.heap.size, 1, none⟩ (.int .i64 hv)).setCell ⟨u7_2.heap.size, 2, none⟩ (.int .i64 st)).setCell ⟨u7_2.heap.size, 3, none⟩ (.int .i64 0)).setCell ⟨w8.heap.size, 0, none⟩ (.int .i64 6)).setCell ⟨w8.heap.size, 1, none⟩ (.int .i64 0)).setCell ⟨w8.heap.size, 2, none⟩ (.int .i64 0)).setCell ⟨w8.heap.size, 3, none⟩ (.int .i64 0))) (u7_2.heap.size) 29 #[.int .i64 0, .int .i64 hv, .int .i64 st, .int .i64 0] := (z67_2_6_5_8).fr (fr_set4 (((((u7_2_6_5).setCell ⟨u7_2.heap.size, 0, none⟩ (.int .i64 0)).setCell ⟨u7_2.heap.size, 1, none⟩ (.int .i64 hv)).setCell ⟨u7_2.heap.size, 2, none⟩ (.int .i64 st)).setCell ⟨u7_2.heap.size, 3, none⟩ (.int .i64 0)) (w8.heap.size) (.int .i64 6) (.int .i64 0) (.int .i64 0) (.int .i64 0)) (fun e => by have : u7_2.heap.size = w8.heap.size := e; omega)
                  have kk7_2_6_5_8_9 : Fr q.wr w8 ((((((((((u7_2_6_5).setCell ⟨u7_2.heap.size, 0, none⟩ (.int .i64 0)).setCell ⟨u7_2.heap.size, 1, none⟩ (.int .i64 hv)).setCell ⟨u7_2.heap.size, 2, none⟩ (.int .i64 st)).setCell ⟨u7_2.heap.size, 3, none⟩ (.int .i64 0)).setCell ⟨w8.heap.size, 0, none⟩ (.int .i64 6)).setCell ⟨w8.heap.size, 1, none⟩ (.int .i64 0)).setCell ⟨w8.heap.size, 2, none⟩ (.int .i64 0)).setCell ⟨w8.heap.size, 3, none⟩ (.int .i64 0))) := kb7_2_6_5_8_9
                  refine hK.out _ _ ?_ (fun hH6 => ?_)
                  · exact HX.out _ kk7_2_6_5_8_9
                  clear hK K
                  (try simp only [Act.put, List.getElem_toArray, List.getElem_cons_zero, List.getElem_cons_succ, List.setIfInBounds_toArray, List.set_cons_zero, List.set_cons_succ])
                  refine wpAnyH_done (by kernel_rfl) ?_ _
                  have hend : BhEnd q b hv st w8 (.pointer (some ⟨u7_2.heap.size, 0, none⟩)) (.pointer (some ⟨w8.heap.size, 0, none⟩)) ((((((((((u7_2_6_5).setCell ⟨u7_2.heap.size, 0, none⟩ (.int .i64 0)).setCell ⟨u7_2.heap.size, 1, none⟩ (.int .i64 hv)).setCell ⟨u7_2.heap.size, 2, none⟩ (.int .i64 st)).setCell ⟨u7_2.heap.size, 3, none⟩ (.int .i64 0)).setCell ⟨w8.heap.size, 0, none⟩ (.int .i64 6)).setCell ⟨w8.heap.size, 1, none⟩ (.int .i64 0)).setCell ⟨w8.heap.size, 2, none⟩ (.int .i64 0)).setCell ⟨w8.heap.size, 3, none⟩ (.int .i64 0))) := ⟨u7_2.heap.size, w8.heap.size, rfl, rfl, (z67_2_6_5_8_9), (z77_2_6_5_8_9), bb7_2_6_5_8_9.no (Fr.refl _ _), kk7_2_6_5_8_9⟩
                  go_wp2
                  go_meet
                  exact hend
                exact AllReadyH.nil
              exact AllReadyH.nil
            exact AllReadyH.nil
          exact AllReadyH.nil
        refine AllReadyH.cons rfl (fun K hK => ?_) ?_
        · go_simp
          refine hK.out _ _ ?_ (fun hH2 => ?_)
          · exact HX.out _ ((((k0).alloc _).alloc _).drew)
          clear hK K
          (try simp only [Act.put, List.getElem_toArray, List.getElem_cons_zero, List.getElem_cons_succ, List.setIfInBounds_toArray, List.set_cons_zero, List.set_cons_succ])
          refine wpAnyH_ready (rs := [2]) (by kernel_rfl) (by simp) ?_
          refine AllReadyH.cons rfl (fun K hK => ?_) ?_
          · go_simp
            have b_ : BkS (((((w8)).alloc (.cells #[.int .i64 0, .int .i64 0, .int .i64 0, .int .i64 0] 29)).alloc (.cells #[.int .i64 0, .int .i64 0, .int .i64 0, .int .i64 0] 29)).drew) q B := b0.no ((((Fr.refl _ _).alloc _).alloc _).drew)
            (with_reducible refine (HD1.out _ b_).mono ?_)
            rintro e u7_6_2 ⟨rfl, bb7_6_2, hg⟩
            have kw : Fr q.wr w8 (((((w8)).alloc (.cells #[.int .i64 0, .int .i64 0, .int .i64 0, .int .i64 0] 29)).alloc (.cells #[.int .i64 0, .int .i64 0, .int .i64 0, .int .i64 0] 29)).drew) := (((k0).alloc _).alloc _).drew
            have kb7_6_2 : Fr q.wr w8 u7_6_2 := Fr.trans kw hg
            have z77_6_2 : Blk u7_6_2 (w8.heap.size) 29 #[.int .i64 0, .int .i64 0, .int .i64 0, .int .i64 0] := by
              have h := Blk.new ((w8)) 29 #[.int .i64 0, .int .i64 0, .int .i64 0, .int .i64 0]
              exact (((h).alloc _).drew).fr hg (HFAR.out _ (by have := (k0).size; omega))
            have z67_6_2 : Blk u7_6_2 (w8.heap.size + 1) 29 #[.int .i64 0, .int .i64 0, .int .i64 0, .int .i64 0] := by
              have h := Blk.new (((w8)).alloc (.cells #[.int .i64 0, .int .i64 0, .int .i64 0, .int .i64 0] 29)) 29 #[.int .i64 0, .int .i64 0, .int .i64 0, .int .i64 0]
              simp only [World.size_alloc] at h
              exact ((h).drew).fr hg (HFAR.out _ (by have := (k0).size; omega))
            clear b_ kw hg
            have hs7_6_2 : w8.heap.size ≤ u7_6_2.heap.size := (kb7_6_2).size
            have hl77_6_2 : w8.heap.size < u7_6_2.heap.size := z77_6_2.lt
            have hl67_6_2 : w8.heap.size + 1 < u7_6_2.heap.size := z67_6_2.lt
            refine hK.out _ _ ?_ (fun hH3 => ?_)
            · exact HX.out _ (kb7_6_2)
            clear hK K
            (try simp only [Act.put, List.getElem_toArray, List.getElem_cons_zero, List.getElem_cons_succ, List.setIfInBounds_toArray, List.set_cons_zero, List.set_cons_succ])
            refine wpAnyH_ready (rs := [5]) (by kernel_rfl) (by simp) ?_
            refine AllReadyH.cons rfl (fun K hK => ?_) ?_
            · go_simp
              have b_ : BkS ((u7_6_2)) q b := bb7_6_2.no (Fr.refl _ _)
              (with_reducible refine (HD2.out _ b_).mono ?_)
              rintro e u7_6_2_5 ⟨rfl, bb7_6_2_5, hg⟩
              have kw : Fr q.wr w8 ((u7_6_2)) := kb7_6_2
              have kb7_6_2_5 : Fr q.wr w8 u7_6_2_5 := Fr.trans kw hg
              have z77_6_2_5 : Blk u7_6_2_5 (w8.heap.size) 29 #[.int .i64 0, .int .i64 0, .int .i64 0, .int .i64 0] := (z77_6_2).fr hg (HFAR.out _ (by have := (kb7_6_2).size; omega))
              have z67_6_2_5 : Blk u7_6_2_5 (w8.heap.size + 1) 29 #[.int .i64 0, .int .i64 0, .int .i64 0, .int .i64 0] := (z67_6_2).fr hg (HFAR.out _ (by have := (kb7_6_2).size; omega))
              clear b_ kw hg
              have hs7_6_2_5 : w8.heap.size ≤ u7_6_2_5.heap.size := (kb7_6_2_5).size
              have hl77_6_2_5 : w8.heap.size < u7_6_2_5.heap.size := z77_6_2_5.lt
              have hl67_6_2_5 : w8.heap.size + 1 < u7_6_2_5.heap.size := z67_6_2_5.lt
              refine hK.out _ _ ?_ (fun hH4 => ?_)
              · exact HX.out _ (kb7_6_2_5)
              clear hK K
              (try simp only [Act.put, List.getElem_toArray, List.getElem_cons_zero, List.getElem_cons_succ, List.setIfInBounds_toArray, List.set_cons_zero, List.set_cons_succ])
              refine wpAnyH_ready (rs := [8]) (by kernel_rfl) (by simp) ?_
              refine AllReadyH.cons rfl (fun K hK => ?_) ?_
              · have c0 := z67_6_2_5.cell 0
                have f0 := z67_6_2_5.frozen 0
                have c1 := z67_6_2_5.cell 1
                have f1 := z67_6_2_5.frozen 1
                have c2 := z67_6_2_5.cell 2
                have f2 := z67_6_2_5.frozen 2
                have c3 := z67_6_2_5.cell 3
                have f3 := z67_6_2_5.frozen 3
                simp only [List.getElem?_toArray, List.getElem?_cons_zero, List.getElem?_cons_succ] at c0 c1 c2 c3
                go_simp
                have kb7_6_2_5_8 : Fr q.wr w8 ((((((u7_6_2_5).setCell ⟨w8.heap.size + 1, 0, none⟩ (.int .i64 0)).setCell ⟨w8.heap.size + 1, 1, none⟩ (.int .i64 hv)).setCell ⟨w8.heap.size + 1, 2, none⟩ (.int .i64 st)).setCell ⟨w8.heap.size + 1, 3, none⟩ (.int .i64 0))) := keep_set4 kb7_6_2_5 (by omega)
                have bb7_6_2_5_8 : BkS ((((((u7_6_2_5).setCell ⟨w8.heap.size + 1, 0, none⟩ (.int .i64 0)).setCell ⟨w8.heap.size + 1, 1, none⟩ (.int .i64 hv)).setCell ⟨w8.heap.size + 1, 2, none⟩ (.int .i64 st)).setCell ⟨w8.heap.size + 1, 3, none⟩ (.int .i64 0))) q b := bb7_6_2_5.fr (fr_set4 (u7_6_2_5) (w8.heap.size + 1) (.int .i64 0) (.int .i64 hv) (.int .i64 st) (.int .i64 0)) (fun i hi e => by have h1 := HLT.out i hi; have : i = w8.heap.size + 1 := e; omega)
                have z67_6_2_5_8 : Blk ((((((u7_6_2_5).setCell ⟨w8.heap.size + 1, 0, none⟩ (.int .i64 0)).setCell ⟨w8.heap.size + 1, 1, none⟩ (.int .i64 hv)).setCell ⟨w8.heap.size + 1, 2, none⟩ (.int .i64 st)).setCell ⟨w8.heap.size + 1, 3, none⟩ (.int .i64 0))) (w8.heap.size + 1) 29 #[.int .i64 0, .int .i64 hv, .int .i64 st, .int .i64 0] := blk_set4 z67_6_2_5 (.int .i64 0) (.int .i64 hv) (.int .i64 st) (.int .i64 0)
                have z77_6_2_5_8 : Blk ((((((u7_6_2_5).setCell ⟨w8.heap.size + 1, 0, none⟩ (.int .i64 0)).setCell ⟨w8.heap.size + 1, 1, none⟩ (.int .i64 hv)).setCell ⟨w8.heap.size + 1, 2, none⟩ (.int .i64 st)).setCell ⟨w8.heap.size + 1, 3, none⟩ (.int .i64 0))) (w8.heap.size) 29 #[.int .i64 0, .int .i64 0, .int .i64 0, .int .i64 0] := (z77_6_2_5).fr (fr_set4 (u7_6_2_5) (w8.heap.size + 1) (.int .i64 0) (.int .i64 hv) (.int .i64 st) (.int .i64 0)) (fun e => by have : w8.heap.size = w8.heap.size + 1 := e; omega)
                have kk7_6_2_5_8 : Fr q.wr w8 ((((((u7_6_2_5).setCell ⟨w8.heap.size + 1, 0, none⟩ (.int .i64 0)).setCell ⟨w8.heap.size + 1, 1, none⟩ (.int .i64 hv)).setCell ⟨w8.heap.size + 1, 2, none⟩ (.int .i64 st)).setCell ⟨w8.heap.size + 1, 3, none⟩ (.int .i64 0))) := kb7_6_2_5_8
                refine hK.out _ _ ?_ (fun hH5 => ?_)
                · exact HX.out _ kk7_6_2_5_8
                clear hK K
                (try simp only [Act.put, List.getElem_toArray, List.getElem_cons_zero, List.getElem_cons_succ, List.setIfInBounds_toArray, List.set_cons_zero, List.set_cons_succ])
                refine wpAnyH_ready (rs := [9]) (by kernel_rfl) (by simp) ?_
                refine AllReadyH.cons rfl (fun K hK => ?_) ?_
                · have c0 := z77_6_2_5_8.cell 0
                  have f0 := z77_6_2_5_8.frozen 0
                  have c1 := z77_6_2_5_8.cell 1
                  have f1 := z77_6_2_5_8.frozen 1
                  have c2 := z77_6_2_5_8.cell 2
                  have f2 := z77_6_2_5_8.frozen 2
                  have c3 := z77_6_2_5_8.cell 3
                  have f3 := z77_6_2_5_8.frozen 3
                  simp only [List.getElem?_toArray, List.getElem?_cons_zero, List.getElem?_cons_succ] at c0 c1 c2 c3
                  have hne1 : ¬ w8.heap.size = w8.heap.size + 1 := by omega
                  have hne2 : ¬ w8.heap.size + 1 = w8.heap.size := by omega
                  have d0 := z77_6_2_5.cell 0
                  have e0 := z77_6_2_5.frozen 0
                  have d1 := z77_6_2_5.cell 1
                  have e1 := z77_6_2_5.frozen 1
                  have d2 := z77_6_2_5.cell 2
                  have e2 := z77_6_2_5.frozen 2
                  have d3 := z77_6_2_5.cell 3
                  have e3 := z77_6_2_5.frozen 3
                  simp only [List.getElem?_toArray, List.getElem?_cons_zero, List.getElem?_cons_succ] at d0 d1 d2 d3
                  go_simp
                  have kb7_6_2_5_8_9 : Fr q.wr w8 ((((((((((u7_6_2_5).setCell ⟨w8.heap.size + 1, 0, none⟩ (.int .i64 0)).setCell ⟨w8.heap.size + 1, 1, none⟩ (.int .i64 hv)).setCell ⟨w8.heap.size + 1, 2, none⟩ (.int .i64 st)).setCell ⟨w8.heap.size + 1, 3, none⟩ (.int .i64 0)).setCell ⟨w8.heap.size, 0, none⟩ (.int .i64 6)).setCell ⟨w8.heap.size, 1, none⟩ (.int .i64 0)).setCell ⟨w8.heap.size, 2, none⟩ (.int .i64 0)).setCell ⟨w8.heap.size, 3, none⟩ (.int .i64 0))) := keep_set4 kb7_6_2_5_8 (by omega)
                  have bb7_6_2_5_8_9 : BkS ((((((((((u7_6_2_5).setCell ⟨w8.heap.size + 1, 0, none⟩ (.int .i64 0)).setCell ⟨w8.heap.size + 1, 1, none⟩ (.int .i64 hv)).setCell ⟨w8.heap.size + 1, 2, none⟩ (.int .i64 st)).setCell ⟨w8.heap.size + 1, 3, none⟩ (.int .i64 0)).setCell ⟨w8.heap.size, 0, none⟩ (.int .i64 6)).setCell ⟨w8.heap.size, 1, none⟩ (.int .i64 0)).setCell ⟨w8.heap.size, 2, none⟩ (.int .i64 0)).setCell ⟨w8.heap.size, 3, none⟩ (.int .i64 0))) q b := bb7_6_2_5_8.fr (fr_set4 (((((u7_6_2_5).setCell ⟨w8.heap.size + 1, 0, none⟩ (.int .i64 0)).setCell ⟨w8.heap.size + 1, 1, none⟩ (.int .i64 hv)).setCell ⟨w8.heap.size + 1, 2, none⟩ (.int .i64 st)).setCell ⟨w8.heap.size + 1, 3, none⟩ (.int .i64 0)) (w8.heap.size) (.int .i64 6) (.int .i64 0) (.int .i64 0) (.int .i64 0)) (fun i hi e => by have h1 := HLT.out i hi; have : i = w8.heap.size := e; omega)
                  have z77_6_2_5_8_9 : Blk ((((((((((u7_6_2_5).setCell ⟨w8.heap.size + 1, 0, none⟩ (.int .i64 0)).setCell ⟨w8.heap.size + 1, 1, none⟩ (.int .i64 hv)).setCell ⟨w8.heap.size + 1, 2, none⟩ (.int .i64 st)).setCell ⟨w8.heap.size + 1, 3, none⟩ (.int .i64 0)).setCell ⟨w8.heap.size, 0, none⟩ (.int .i64 6)).setCell ⟨w8.heap.size, 1, none⟩ (.int .i64 0)).setCell ⟨w8.heap.size, 2, none⟩ (.int .i64 0)).setCell ⟨w8.heap.size, 3, none⟩ (.int .i64 0))) (w8.heap.size) 29 #[.int .i64 6, .int .i64 0, .int .i64 0, .int .i64 0] := blk_set4 z77_6_2_5_8 (.int .i64 6) (.int .i64 0) (.int .i64 0) (.int .i64 0)
                  have z67_6_2_5_8_9 : Blk ((((((((((u7_6_2_5).setCell ⟨w8.heap.size + 1, 0, none⟩ (.int .i64 0)).setCell ⟨w8.heap.size + 1, 1, none⟩ (.int .i64 hv)).setCell ⟨w8.heap.size + 1, 2, none⟩ (.int .i64 st)).setCell ⟨w8.heap.size + 1, 3, none⟩ (.int .i64 0)).setCell ⟨w8.heap.size, 0, none⟩ (.int .i64 6)).setCell ⟨w8.heap.size, 1, none⟩ (.int .i64 0)).setCell ⟨w8.heap.size, 2, none⟩ (.int .i64 0)).setCell ⟨w8.heap.size, 3, none⟩ (.int .i64 0))) (w8.heap.size + 1) 29 #[.int .i64 0, .int .i64 hv, .int .i64 st, .int .i64 0] := (z67_6_2_5_8).fr (fr_set4 (((((u7_6_2_5).setCell ⟨w8.heap.size + 1, 0, none⟩ (.int .i64 0)).setCell ⟨w8.heap.size + 1, 1, none⟩ (.int .i64 hv)).setCell ⟨w8.heap.size + 1, 2, none⟩ (.int .i64 st)).setCell ⟨w8.heap.size + 1, 3, none⟩ (.int .i64 0)) (w8.heap.size) (.int .i64 6) (.int .i64 0) (.int .i64 0) (.int .i64 0)) (fun e => by have : w8.heap.size + 1 = w8.heap.size := e; omega)
                  have kk7_6_2_5_8_9 : Fr q.wr w8 ((((((((((u7_6_2_5).setCell ⟨w8.heap.size + 1, 0, none⟩ (.int .i64 0)).setCell ⟨w8.heap.size + 1, 1, none⟩ (.int .i64 hv)).setCell ⟨w8.heap.size + 1, 2, none⟩ (.int .i64 st)).setCell ⟨w8.heap.size + 1, 3, none⟩ (.int .i64 0)).setCell ⟨w8.heap.size, 0, none⟩ (.int .i64 6)).setCell ⟨w8.heap.size, 1, none⟩ (.int .i64 0)).setCell ⟨w8.heap.size, 2, none⟩ (.int .i64 0)).setCell ⟨w8.heap.size, 3, none⟩ (.int .i64 0))) := kb7_6_2_5_8_9
                  refine hK.out _ _ ?_ (fun hH6 => ?_)
                  · exact HX.out _ kk7_6_2_5_8_9
                  clear hK K
                  (try simp only [Act.put, List.getElem_toArray, List.getElem_cons_zero, List.getElem_cons_succ, List.setIfInBounds_toArray, List.set_cons_zero, List.set_cons_succ])
                  refine wpAnyH_done (by kernel_rfl) ?_ _
                  have hend : BhEnd q b hv st w8 (.pointer (some ⟨w8.heap.size + 1, 0, none⟩)) (.pointer (some ⟨w8.heap.size, 0, none⟩)) ((((((((((u7_6_2_5).setCell ⟨w8.heap.size + 1, 0, none⟩ (.int .i64 0)).setCell ⟨w8.heap.size + 1, 1, none⟩ (.int .i64 hv)).setCell ⟨w8.heap.size + 1, 2, none⟩ (.int .i64 st)).setCell ⟨w8.heap.size + 1, 3, none⟩ (.int .i64 0)).setCell ⟨w8.heap.size, 0, none⟩ (.int .i64 6)).setCell ⟨w8.heap.size, 1, none⟩ (.int .i64 0)).setCell ⟨w8.heap.size, 2, none⟩ (.int .i64 0)).setCell ⟨w8.heap.size, 3, none⟩ (.int .i64 0))) := ⟨w8.heap.size + 1, w8.heap.size, rfl, rfl, (z67_6_2_5_8_9), (z77_6_2_5_8_9), bb7_6_2_5_8_9.no (Fr.refl _ _), kk7_6_2_5_8_9⟩
                  go_wp2
                  go_meet
                  exact hend
                exact AllReadyH.nil
              exact AllReadyH.nil
            exact AllReadyH.nil
          exact AllReadyH.nil
        exact AllReadyH.nil
      exact AllReadyH.nil
    case rest =>
      obtain ⟨g12, g13, rfl, rfl, hz12, hz13, hbe, hke⟩ := hcut
      have hr := HR8.out.fr hke (fun h => by have := HLT6.out gr (Pl.wr_all h); omega)
      have hce := HC8.out.fr hke (fun i hi => HAP.out i hi)
      have HSM := Lib.hid (bsame_any qc q b b _ hce hbe)
      rw [sameBk_refl] at HSM
      have HWE : Hid (Below w.heap.size w _) := below_fr HW8.out hke HW8.out.size (fun k hk => by have := HQ.out k (Pl.wr_all hk); omega)
      have r2 := hr.cell 2
      have r3 := hr.cell 3
      have x0 := hz12.cell 0
      have x2 := hz12.cell 2
      have y0 := hz13.cell 0
      simp only [List.getElem?_toArray, List.getElem?_cons_zero, List.getElem?_cons_succ] at r2 r3 x0 x2 y0
      have hw1 : wrap64 (st + sum - sum) = st := by rw [show st + sum - sum = st by omega]; exact IntWalk.wrap64_in _ ⟨by omega, by omega⟩
      have hge : sum ≤ st + sum := by omega
      clear hr hce hz12 hz13 hbe hke
      go_wp2_with fail
      (with_reducible refine HSM.out.mono ?_)
      rintro e w10 ⟨rfl, hf10⟩
      have HW10 := Lib.hid (below_fr_no HWE.out hf10 HWE.out.size)
      clear hf10 hw1
      go_wp2
      go_ret
      exact ⟨rfl, HW10.out⟩
end Go.Proofs.YtgklifbfbjdobaaGreat

