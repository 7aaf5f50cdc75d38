/- The document's own voucher: Check. -/
import Derived.Test.YtcjdkifojkjjeaaGreatVouR1
import Derived.Test.YtcjdkifojkjjeaaGreatChartJ5
import Derived.Deep.DeepCutAuto
namespace Go.Proofs.YtcjdkifojkjjeaaGreat
open Go.RowKit Go.My Go.Maps
set_option linter.unusedSimpArgs false
set_option linter.unusedVariables false
attribute [local go_sem ↓] Go.wp_at_zero Go.wp_at_succ

theorem first_at (S : List Ac) : ∀ (L : List Lg) (i : Nat) (hi : i < L.length), (L.map Lg.nm).Nodup → (∀ g ∈ L.take i, legE S g = 0) → legE S L[i] ≠ 0 → legsE S L = legE S L[i] := by
  intro L i hi hd h0 hne
  rw [legs_first S L S hd (fun _ _ => rfl)]
  have hsp : L = L.take i ++ L[i] :: L.drop (i + 1) := by simp
  have hf : L.find? (fun g => decide (legE S g ≠ 0)) = some L[i] := by
    rw [List.find?_eq_some_iff_append]
    exact ⟨by simp [hne], L.take i, L.drop (i + 1), hsp, fun a ha => by simp [h0 a ha]⟩
  rw [hf]
  rfl
theorem all_zero (S : List Ac) {L : List Lg} (hd : (L.map Lg.nm).Nodup) (h0 : ∀ g ∈ L, legE S g = 0) : legsE S L = 0 := (legs_each S L S hd (fun _ _ => rfl)).2 h0
theorem take_zero_next {S : List Ac} {L : List Lg} {i : Nat} (hi : i < L.length) (h : ∀ g ∈ L.take i, legE S g = 0) (h0 : legE S L[i] = 0) : ∀ g ∈ L.take (i + 1), legE S g = 0 := fun g hg => by
  rw [List.take_succ_eq_append_getElem hi, List.mem_append, List.mem_singleton] at hg
  rcases hg with hg | rfl
  · exact h g hg
  · exact h0
theorem legE_none {S : List Ac} {g : Lg} (h : getA S g.nm = none) : legE S g = 6 := by unfold legE; rw [h]; rfl
theorem legE_some {S : List Ac} {g : Lg} {a : Ac} (h : getA S g.nm = some a) : legE S g = if g.sum = -9223372036854775808 then 2 else giveE a (-g.sum) := by
  unfold legE actE
  rw [h]
  rfl
def CkRel (w : World) (S : List Ac) (L : List Lg) (iv : Value) (wr : World) : Prop := ∃ i : Nat, i ≤ L.length ∧ iv = .int .i64 i ∧ (∀ g ∈ L.take i, legE S g = 0) ∧ Fr No w wr

set_option maxRecDepth 100000 in
set_option maxHeartbeats 4000000 in
theorem refcheck_any (q : Nat) (S : List Ac) (F : Nat → Prop) (A : Option Addr) (c : Nat) (cells : List Value) (L : List Lg) (w : World) (h : RfS w q S) (hI : Inv S) (hr : Rd w F 2 A L.length cells) (hE : Each RdLg 2 cells L) (hL : L.length ≤ 100) :
    Calls Tryz.prog 70 #[.pointer (some ⟨q, 0, none⟩), .slice A L.length c] w fun e w' => e = .returned (.int .i64 (checkE S L)) ∧ Fr No w w' := by
  have HR := Lib.hid hr
  have HE := Lib.hid hE
  have HH := Lib.hid h
  have HI := Lib.hid hI
  have HRT := Lib.hid (refright_any F A c cells L w hr hE hL)
  have HNB : Hid (∀ (W : World) cs, (W.alloc (.cells cs 2)).heap[W.heap.size]? = some (.cells cs 2 (0, 0))) := fun W cs => heap_alloc_new W _
  clear hr hE h hI
  go_enter Tryz.func70, Tryz.ntmps70
  go_wp2_with fail
  refine HRT.out.mono ?_
  rintro e w1 ⟨rfl, hf1⟩
  have HF1 := Lib.hid hf1
  clear hf1
  cases hrb : rightB L with
  | false =>
    have HN : Hid (checkE S L = 1) := by show _ = _; unfold checkE; rw [if_pos hrb]
    clear hrb
    go_wp2
    go_ret
    exact ⟨by rw [HN.out]; rfl, HF1.out⟩
  | true =>
    have HRB := Lib.hid hrb
    clear hrb
    go_wp2_with fail
    go_loopw [5, 6] (fun lv iv wr => BalRel w L lv iv wr) (fun _ iv _ => L.length - (intOf iv).toNat)
    case atStart => exact ⟨0, Nat.zero_le _, rfl, Own.nil _ _ _, HF1.out, .inl rfl⟩
    case round =>
      obtain ⟨k, hk, rfl, hown, hfr, hnew⟩ := hrel
      by_cases hlt : k < L.length
      · obtain ⟨ad, rfl, _, _, q0, q1⟩ := lg_at (HR.out.fr (by omega) hfr fun _ _ _ h => h) HE.out k hlt hlt
        have E : Hid (is_ (sums (L.take (k + 1))) = is_ (sums (L.take k)) ++ [.int .i64 L[k].sum]) := by
          show _ = _
          rw [sums_take hlt, is_append]
          rfl
        have hX : Hid (k + 1 ≤ maxLen ∧ (k + 1) * 8 ≤ 140737488355328) := by
          refine ⟨?_, ?_⟩ <;> (try simp only [maxLen]) <;> omega
        generalize L[k] = g at *
        obtain ⟨nm, sm⟩ := g
        simp only at q0 q1 E
        have HOWN := Lib.hid hown
        have HFR := Lib.hid hfr
        have HNEW := Lib.hid hnew
        clear hown hfr hnew
        go_wp2_with (at_builtin; refine wpList_app _ rfl (.tmp 25) (.tmp 31) 108 108 rfl elI (HOWN.out.alloc _) rfl (Src.of_new wr.heap.size (HNB.out _ _) Tryz.underlying108 rfl (by simp [Value.oneCell'])) rfl hX.out.1 hX.out.2 ?_; intro v1 w3 hown3 hfr3 hnew3)
        go_roundw
        case rel =>
          refine ⟨k + 1, by omega, by go_num, ?_, ?_, ?_⟩
          · rw [E.out]
            exact hown3
          · exact fr_no (HFR.out.alloc _) HNEW.out hfr3
          · exact HNEW.out.trans (Newer.of hnew3) (by have := HFR.out.size; simp; omega)
        case measure => simp [intOf]; omega
      · obtain rfl : k = L.length := by omega
        rw [List.take_length] at hown
        obtain ⟨A4, c4, rfl, hl4, hc4⟩ := hown.form
        have h4 := reftotal_any A4 c4 (sums L) wr (by rw [sums_length]; exact (hown.rd.lt (by omega)).more fun _ h => h.2) (sums_in (each_ok HE.out)) (by rw [sums_length]; omega)
        rw [sums_length] at h4
        have HF := Lib.hid hfr
        clear hown hfr hnew
        have hmain : ∀ W, Fr No w W → Fr No w W := fun _ h => h
        by_cases hT : total (sums L) = 0
        · rw [two64_in (by rw [hT]; unfold In64; omega), hT] at h4
          have H4 := Lib.hid h4
          have HN : Hid (checkE S L = legsE S L) := by show _ = _; unfold checkE; rw [if_neg (by rw [HRB.out]; decide), if_pos hT]
          have HND := Lib.hid (right_nodup HRB.out)
          clear h4 hT hmain
          go_wp2_with fail
          refine H4.out.mono ?_
          rintro e w5 ⟨rfl, hb5⟩
          have HF5 := Lib.hid (HF.out.trans (Fr.of_below hb5 _))
          clear hb5
          go_wp2_with fail
          go_loopw [9] (fun iv ws => CkRel w S L iv ws) (fun iv _ => L.length - (intOf iv).toNat)
          case atStart => exact ⟨0, Nat.zero_le _, rfl, fun g hg => by simp at hg, HF5.out⟩
          case round =>
            obtain ⟨i, hi, rfl, hz, hfi⟩ := hrel
            by_cases hil : i < L.length
            · obtain ⟨ad, rfl, _, hok, q0, q1⟩ := lg_at (HR.out.fr (by omega) hfi fun _ _ _ h => h) HE.out i hil hil
              have HAT : Hid (∀ W, Fr No wr W → Fr No wr W ∧ W.cell? (ad.add (i * 2)) = some (.string L[i].acct) ∧ W.cell? ⟨(ad.add (i * 2)).block, (ad.add (i * 2)).off + 1, none⟩ = some (.int .i64 L[i].sum)) := fun W hW => ⟨hW, hW.cell_some q0 (fun h => h), hW.cell_some q1 (fun h => h)⟩
              have HER : Hid (∀ n, legE S L[i] = n → n ≠ 0 → ∀ W, Fr No w W → checkE S L = n ∧ Fr No w W) := fun n hn h0 W hW => ⟨by rw [HN.out, first_at S L i hil HND.out hz (by rw [hn]; exact h0), hn], hW⟩
              have HNX : Hid (legE S L[i] = 0 → ∀ g ∈ L.take (i + 1), legE S g = 0) := fun h0 => take_zero_next hil hz h0
              generalize L[i] = g at *
              obtain ⟨nm, sm⟩ := g
              unfold Lg.ok at hok
              simp only at q0 q1 hok HAT
              have HGT := Lib.hid (refget_any q S nm wr (HH.out.no hfi) HI.out)
              have HOK := Lib.hid hok
              have HFI := Lib.hid hfi
              have hsr : w.heap.size ≤ wr.heap.size := hfi.size
              clear hfi hz
              cases hq : getA S nm.data.toList with
              | none =>
                have HE6 := Lib.hid (HER.out 6 (legE_none hq) (by omega))
                have hG := HGT.out
                unfold GotR getV at hG
                rw [hq] at hG
                have HG := Lib.hid hG
                clear hG hq HGT HER HNX HOK hok
                go_wp2_with fail
                refine HG.out.mono ?_
                rintro e w6 ⟨rfl, hf6⟩
                have HF6 := Lib.hid (HFI.out.trans hf6)
                clear hf6
                unfold noA Ac.val
                go_wp2
                go_ret
                exact ⟨by rw [(HE6.out w (Fr.refl _ _)).1]; rfl, HF6.out.alloc _⟩
              | some a =>
                have hoka := HI.out.ok a (getA_some hq).1
                have HLE : Hid (legE S ⟨nm, sm⟩ = if sm = -9223372036854775808 then 2 else giveE a (-sm)) := legE_some hq
                have hG := HGT.out
                unfold GotR getV at hG
                rw [hq] at hG
                obtain ⟨na, va, sa, la⟩ := a
                simp only [Option.getD_some, Option.isSome_some, if_true] at hG
                unfold Ac.val at hG
                simp only at hG
                have HG := Lib.hid hG
                have HOA := Lib.hid hoka
                unfold OkA at hoka
                simp only at hoka
                obtain ⟨ho1, ho2, ho3⟩ := hoka
                have HO1 := Lib.hid ho1
                clear hG hq HGT ho2 ho3 hok ho1
                go_wp2_with fail
                refine HG.out.mono ?_
                rintro e w6 ⟨rfl, hf6⟩
                have hF6 : Fr No wr (w6.alloc (.cells #[.string ⟨na.toArray⟩, .int .i64 va, .int .i64 sa, .int .i64 la] 56)) := hf6.alloc _
                have hbx := Blk.new w6 56 #[.string ⟨na.toArray⟩, .int .i64 va, .int .i64 sa, .int .i64 la]
                obtain ⟨_, y0, y1⟩ := HAT.out _ hF6
                have HBX := Lib.hid hbx
                have HF6 := Lib.hid hF6
                have HLS := Lib.hid (refless_any 0 sm (w6.alloc (.cells #[.string ⟨na.toArray⟩, .int .i64 va, .int .i64 sa, .int .i64 la] 56)) (by unfold In64; omega) HOK.out.2)
                clear hf6 hF6 hbx q0 q1
                go_upto_region 17 with (fail)
                generalize (w6.alloc (.cells #[.string ⟨na.toArray⟩, .int .i64 va, .int .i64 sa, .int .i64 la] 56)) = w7 at *
                generalize w6.heap.size = bo at *
                obtain ⟨tl, te, htl⟩ : ∃ tl te, two64 (0 - sm) = .tuple #[.int .i64 tl, .int .i64 te] := ⟨_, _, rfl⟩
                have HTL := Lib.hid htl
                rw [htl] at HLS
                clear htl
                go_wp2_with fail
                refine HLS.out.mono ?_
                rintro e w8 ⟨rfl, hb8⟩
                have hf8 : Fr No w7 w8 := Fr.of_below hb8 _
                have HF8 := Lib.hid hf8
                have hbx8 := HBX.out.fr hf8 (fun h => h)
                have HBX8 := Lib.hid hbx8
                obtain ⟨_, z0, z1⟩ := HAT.out _ (HF6.out.trans hf8)
                have x1 := hbx8.cell 1
                simp only [List.getElem?_toArray, List.getElem?_cons_zero, List.getElem?_cons_succ] at x1
                have z1' : w8.drew.cell? ⟨(ad.add (i * 2)).block, (ad.add (i * 2)).off + 1, none⟩ = some (.int .i64 sm) := z1
                have x1' : w8.drew.cell? ⟨bo, 1, none⟩ = some (.int .i64 va) := x1
                obtain ⟨ta, tb, hta⟩ : ∃ tl te, two64 (va + sm) = .tuple #[.int .i64 tl, .int .i64 te] := ⟨_, _, rfl⟩
                have hAD := refadd_any va sm w8.drew HO1.out HOK.out.2
                rw [hta] at hAD
                have HAD := Lib.hid hAD
                have HTA := Lib.hid hta
                clear hb8 hf8 hbx8 y0 y1 hta hAD HLS HG
                go_upto_region 18 with (fail)
                go_cut [14, 15] (fun a14 a15 wx => (a14 = .int .i64 ta ∧ a15 = .int .i64 tb) ∧ Fr No w8 wx)
                case first =>
                  go_wp2
                  go_region_with (go_at_call 69; (with_reducible refine HAD.out.mono ?_); rintro e w9 ⟨rfl, hb9⟩; have hf9 : Fr No w8 w9 := Fr.trans ((Fr.refl No w8).drew) (Fr.of_below hb9 _))
                  all_goals
                    go_wp2
                    go_meet
                    exact ⟨⟨rfl, rfl⟩, by assumption⟩
                case rest =>
                  obtain ⟨⟨rfl, rfl⟩, hf9⟩ := hcut
                  have HF9 := Lib.hid (HFI.out.trans (HF6.out.trans (HF8.out.trans hf9)))
                  have HFX := Lib.hid ((fun W (_ : Fr No w8 W) => fun (x : Int) (hx : 0 < x ∧ x ≤ 9223372036854775807) => reffree_any ⟨na, va, sa, la⟩ x W HOA.out hx) _ hf9)
                  have hbx9 := HBX8.out.fr hf9 (fun h => h)
                  have x0 := hbx9.cell 0
                  have x1 := hbx9.cell 1
                  have x2 := hbx9.cell 2
                  have x3 := hbx9.cell 3
                  simp only [List.getElem?_toArray, List.getElem?_cons_zero, List.getElem?_cons_succ] at x0 x1 x2 x3
                  clear hf9 hbx9 z0 z1 z1' x1' HAD
                  have h2 : -9223372036854775808 ≤ sm ∧ sm ≤ 9223372036854775807 := HOK.out.2
                  have HRET : Hid (∀ n W, legE S ⟨nm, sm⟩ = n → n ≠ 0 → Fr No w W → checkE S L = n ∧ Fr No w W) := fun n W hn h0 hW => HER.out n hn h0 W hW
                  by_cases hmin : sm = -9223372036854775808
                  · have e1 := HTL.out
                    rw [two64_out (by unfold In64; omega)] at e1
                    injection e1 with e1
                    obtain ⟨rfl, rfl⟩ := two_inj e1
                    have HEND := Lib.hid (HRET.out 2 _ (by rw [HLE.out, if_pos hmin]) (by omega) HF9.out)
                    clear hmin h2 e1
                    go_wp2
                    go_ret
                    exact ⟨by rw [HEND.out.1]; rfl, HEND.out.2⟩
                  · have e1 := HTL.out
                    rw [two64_in (by unfold In64; omega)] at e1
                    injection e1 with e1
                    obtain ⟨e1, rfl⟩ := two_inj e1
                    have HLE2 : Hid (legE S ⟨nm, sm⟩ = giveE ⟨na, va, sa, la⟩ (-sm)) := by show _ = _; rw [HLE.out, if_neg hmin]
                    have e2 := HTA.out
                    by_cases hin : In64 (va + sm)
                    · rw [two64_in hin] at e2
                      injection e2 with e2
                      obtain ⟨rfl, rfl⟩ := two_inj e2
                      have hin' : In64 (va - -sm) := by rw [Int.sub_neg]; exact hin
                      by_cases hpos : 0 < tl
                      · have hx := HFX.out tl ⟨hpos, by omega⟩
                        have en : -sm = tl := by omega
                        cases hfb : freeB ⟨na, va, sa, la⟩ tl with
                        | false =>
                          rw [hfb] at hx
                          have HX := Lib.hid hx
                          have HG9 : Hid (giveE ⟨na, va, sa, la⟩ (-sm) = 9) := by show _ = _; unfold giveE; rw [if_pos hin', en, if_pos ⟨hpos, hfb⟩]
                          have HRT9 : Hid (∀ W, Fr No w W → checkE S L = 9 ∧ Fr No w W) := fun W hW => HRET.out 9 W (by rw [HLE2.out, HG9.out]) (by omega) hW
                          clear hx hfb en hin' hin e1 e2 hmin h2
                          go_wp2_with fail
                          (with_reducible refine HX.out.mono ?_)
                          rintro e w10 ⟨rfl, hf10⟩
                          have HEND := Lib.hid (HRT9.out _ (HF9.out.trans hf10))
                          clear hf10
                          go_wp2
                          go_ret
                          exact ⟨by rw [HEND.out.1]; rfl, HEND.out.2⟩
                        | true =>
                          rw [hfb] at hx
                          have HX := Lib.hid hx
                          have HG0 : Hid (∀ g ∈ L.take (i + 1), legE S g = 0) := HNX.out (by rw [HLE2.out]; unfold giveE; rw [if_pos hin', en, if_neg (by rw [hfb]; simp)])
                          clear hx hfb en hin' hin e1 e2 hmin h2
                          go_wp2_with fail
                          (with_reducible refine HX.out.mono ?_)
                          rintro e w10 ⟨rfl, hf10⟩
                          have HF10 := Lib.hid (HF9.out.trans hf10)
                          clear hf10
                          go_wp2
                          go_roundw
                          case rel => exact ⟨i + 1, by omega, by go_num, HG0.out, HF10.out⟩
                          case measure => simp [intOf]; omega
                      · have HG0 : Hid (∀ g ∈ L.take (i + 1), legE S g = 0) := HNX.out (by rw [HLE2.out]; unfold giveE; rw [if_pos hin', if_neg (fun h => hpos (by have := h.1; omega))])
                        clear hin' hin e1 e2 hmin h2
                        go_wp2
                        go_roundw
                        case rel => exact ⟨i + 1, by omega, by go_num, HG0.out, HF9.out⟩
                        case measure => simp [intOf]; omega
                    · rw [two64_out hin] at e2
                      injection e2 with e2
                      obtain ⟨rfl, rfl⟩ := two_inj e2
                      have HEND := Lib.hid (HRET.out 2 _ (by rw [HLE2.out]; unfold giveE; rw [if_neg (by rw [Int.sub_neg]; exact hin)]) (by omega) HF9.out)
                      clear hmin h2 e1 e2 hin
                      go_wp2
                      go_ret
                      exact ⟨by rw [HEND.out.1]; rfl, HEND.out.2⟩
            · obtain rfl : i = L.length := by omega
              have HZ : Hid (checkE S L = 0) := by show _ = _; rw [HN.out]; rw [List.take_length] at hz; exact all_zero S HND.out hz
              have HFI := Lib.hid hfi
              clear hz hfi
              go_wp2
              go_ret
              exact ⟨by rw [HZ.out]; rfl, HFI.out⟩
        · have HN : Hid (checkE S L = 8) := by show _ = _; unfold checkE; rw [if_neg (by rw [HRB.out]; decide), if_neg hT]
          clear hmain
          by_cases hin : In64 (total (sums L))
          · rw [two64_in hin] at h4
            have H4 := Lib.hid h4
            have hz : (total (sums L) == 0) = false := beq_eq_false_iff_ne.2 hT
            have hz2 : (total (sums L) != 0) = true := by rw [bne_iff_ne]; exact hT
            generalize total (sums L) = tt at *
            clear h4 hin hT
            go_wp2_with fail
            refine H4.out.mono ?_
            rintro e w5 ⟨rfl, hb5⟩
            have HF5 := Lib.hid (HF.out.trans (Fr.of_below hb5 _))
            clear hb5
            go_wp2
            go_ret
            exact ⟨by rw [HN.out]; rfl, HF5.out⟩
          · rw [two64_out hin] at h4
            have H4 := Lib.hid h4
            clear h4 hin hT
            go_wp2_with fail
            refine H4.out.mono ?_
            rintro e w5 ⟨rfl, hb5⟩
            have HF5 := Lib.hid (HF.out.trans (Fr.of_below hb5 _))
            clear hb5
            go_wp2
            go_ret
            exact ⟨by rw [HN.out]; rfl, HF5.out⟩
end Go.Proofs.YtcjdkifojkjjeaaGreat
