/- BookWeighs' walk. -/
import Derived.Test.YtgklifbfbjdobaaGreatBookD
import Derived.Test.YtgklifbfbjdobaaGreatBookMath6
namespace Go.Proofs.YtgklifbfbjdobaaGreat
open Go.RowKit Go.My Go.Maps Go.BigFrame
set_option linter.unusedSimpArgs false
set_option linter.unusedVariables false
attribute [local go_sem ↓] Go.wp_at_zero Go.wp_at_succ

theorem wrap_zero : wrap64 0 = 0 := by unfold wrap64; omega
theorem wrap_add (x y : Int) : wrap64 (wrap64 x + y) = wrap64 (x + y) := by unfold wrap64; omega
theorem wrap_sub (x y : Int) : wrap64 (wrap64 x - y) = wrap64 (x - y) := by unfold wrap64; omega
theorem total_snoc (l : List Int) (x : Int) : total (l ++ [x]) = total l + x := by rw [total_append]; simp [total_cons, total_nil]
theorem hvs_takeT {S : List Ac} {k : Nat} (hk : k < S.length) : total (hvs (S.take (k + 1))) = total (hvs (S.take k)) + S[k].hv := by
  unfold hvs
  rw [List.take_succ_eq_append_getElem hk, List.map_append]
  exact total_snoc _ _
theorem sts_take {S : List Ac} {k : Nat} (hk : k < S.length) : total (stsA (S.take (k + 1))) = total (stsA (S.take k)) + S[k].st := by
  unfold stsA
  rw [List.take_succ_eq_append_getElem hk, List.map_append]
  exact total_snoc _ _
theorem sums_takeH {H : List Hd} {k : Nat} (hk : k < H.length) : total ((H.take (k + 1)).map Hd.sum) = total ((H.take k).map Hd.sum) + H[k].sum := by
  rw [List.take_succ_eq_append_getElem hk, List.map_append]
  exact total_snoc _ _
theorem fold_total {b : Bk} (hI : BkI b) (h0 : total (hvs b.S) = 0) : ∀ l : List Od, (∀ o ∈ l, o.ok) → total (hvs (foldB b l).S) = 0
  | [], _ => h0
  | o :: r, hl => fold_total (do_inv hI (hl o List.mem_cons_self)) (do_total hI o h0) r fun x hx => hl x (List.mem_cons_of_mem _ hx)
def WgRel (w4 : World) (q : Pl) (os : List Od) (iv : Value) (wr : World) : Prop := ∃ k : Nat, k ≤ os.length ∧ iv = .int .i64 k ∧ BkS wr q (foldB bk0 (os.take k)) ∧ Fr q.wr w4 wr
def W1Rel (w9 : World) (S : List Ac) (tv sv iv : Value) (ws : World) : Prop := ∃ k : Nat, k ≤ S.length ∧ iv = .int .i64 k ∧ tv = .int .i64 (wrap64 (total (hvs (S.take k)))) ∧ sv = .int .i64 (wrap64 (total (stsA (S.take k)))) ∧ Fr No w9 ws
def W2Rel (w9 : World) (T : Int) (H : List Hd) (sv iv : Value) (ws : World) : Prop := ∃ k : Nat, k ≤ H.length ∧ iv = .int .i64 k ∧ sv = .int .i64 (wrap64 (T - total ((H.take k).map Hd.sum))) ∧ ws = w9
set_option maxRecDepth 100000 in
set_option maxHeartbeats 4000000 in
theorem bookWeighs_walk (A : Option Addr) (c : Nat) (l : List Od) (w : World) (hl : OdsS w w (Lt w.heap.size) A l) (hlc : l.length ≤ c) (hcm : c ≤ maxLen) :
    Calls Tryz.prog 3 #[.slice A l.length c] w (RetTrue w) := by
  have HFEW : Hid (∀ W, Below w.heap.size w W → Calls Tryz.prog 10 #[.slice A l.length c, .int .i64 80] W (FewRet w W (fewO l 80))) := fun W hW =>
    few9_any w W _ A c l 80 (hl.below hW (fun _ h => h)) hlc hcm (by omega)
  have HTOT : Hid (∀ k, total (hvs (foldB bk0 ((fewO l 80).take k)).S) = 0) := fun k => fold_total bki0 rfl _ (fun o ho => by
    have h0 := List.mem_of_mem_take ho
    unfold fewO at h0
    obtain ⟨o', h1, rfl⟩ := List.mem_map.1 h0
    exact hl.ok o' (List.mem_of_mem_take h1))
  have hMN : (fewO l 80).length ≤ 80 := by rw [fewO_length]; omega
  clear hl hlc hcm
  go_enter Tryz.func3, Tryz.ntmps3
  go_wp2_with fail
  (with_reducible refine (lives9 _).mono ?_)
  rintro e w1 ⟨rfl, hb1⟩
  go_wp2_with fail
  (with_reducible refine (newB_any _).mono ?_)
  rintro e w2 ⟨q, rfl, hb2, hf2, hq2⟩
  have HW2 : Hid (Below w.heap.size w w2) := below_fr_no hb1 hf2 hb1.size
  have HB2 := Lib.hid hb2
  have HQ : Hid (∀ i, q.all i → w.heap.size ≤ i) := fun i hi => by have := hq2 i hi; have := hb1.size; omega
  clear hb1 hb2 hf2 hq2
  go_wp2_with fail
  (with_reducible refine (HFEW.out _ HW2.out).mono ?_)
  rintro e w3 ⟨A3, c3, rfl, hm3, hl3, hc3, hf3⟩
  have HW3 : Hid (Below w.heap.size w w3) := below_fr_no HW2.out hf3 HW2.out.size
  have HB3 := Lib.hid (HB2.out.no hf3)
  have HM3 := Lib.hid hm3
  have HQL : Hid (∀ i, q.all i → i < w2.heap.size) := HB2.out.lt
  clear hm3 hf3 HFEW HB2 HW2
  generalize fewO l 80 = os at *
  go_wp2_with fail
  go_loopw [4] (fun iv wr => WgRel w3 q os iv wr) (fun iv _ => os.length - (intOf iv).toNat)
  case atStart => exact ⟨0, Nat.zero_le _, rfl, HB3.out, Fr.refl _ _⟩
  case round =>
    obtain ⟨k, hk, rfl, hbk, hfr⟩ := hrel
    have HFR := Lib.hid hfr
    have HBK := Lib.hid hbk
    have HWR : Hid (Below w.heap.size w wr) := below_fr HW3.out hfr HW3.out.size (fun i hi => HQ.out i (Pl.wr_all hi))
    have HMR := Lib.hid (HM3.out.fr hfr (fun i hi _ h => by have := HQL.out i (Pl.wr_all h); have : w2.heap.size ≤ i := hi; omega))
    clear hfr hbk
    by_cases hlt : k < os.length
    · generalize wr = wo at *
      obtain ⟨ad, v, rfl, had, hok, hg, hL, q0, q1, q2, q3, q4, q5, q6, q7, q8, q9⟩ := HMR.out.at_ k hlt
      obtain ⟨B, d, rfl, hd1, hd2⟩ := hL.form
      obtain ⟨-, E2⟩ := fold_take bk0 os k hlt
      have HDO : Hid (∀ W, BkS W q (foldB bk0 (os.take k)) → Below w.heap.size w W → Calls Tryz.prog 12 #[.pointer (some ⟨q.p, 0, none⟩), .agg #[.int .i64 os[k].cl, .int .i64 os[k].sq, .int .i64 os[k].kd, .string os[k].acct, .string os[k].peer, .int .i64 os[k].sum, .slice B os[k].legs.length d, .int .i64 os[k].per, .int .i64 os[k].hold, .string os[k].note]] W fun e w' => e = .returned (.agg #[.int .i64 (doR (foldB bk0 (os.take k)) os[k]).err, .int .i64 (doR (foldB bk0 (os.take k)) os[k]).hv, .int .i64 (doR (foldB bk0 (os.take k)) os[k]).st, .int .i64 (doR (foldB bk0 (os.take k)) os[k]).num]) ∧ BkS w' q (foldB bk0 (os.take (k + 1))) ∧ Fr q.wr W w') := fun W h1 h2 => by
        refine (doat_any w q _ os[k] _ W h1 hok hL h2 HQ.out).mono fun e w' hx => ⟨hx.1, ?_, hx.2.2⟩
        rw [E2]
        exact hx.2.1
      have HERR : Hid ((doR (foldB bk0 (os.take k)) os[k]).err ≠ 0 → foldB bk0 (os.take (k + 1)) = foldB bk0 (os.take k) ∧ doR (foldB bk0 (os.take k)) os[k] = errR (doR (foldB bk0 (os.take k)) os[k]).err) := fun h => by
        rw [E2]
        exact do_err HBK.out.inv os[k] h
      have HASK : Hid (os[k].kd = 7 → foldB bk0 (os.take (k + 1)) = foldB bk0 (os.take k)) := fun h => by
        rw [E2]
        exact do_ask os[k] h
      have HCL : Hid ((foldB bk0 (os.take k)).cl ≤ (foldB bk0 (os.take (k + 1))).cl) := by
        show _ ≤ _
        rw [E2]
        exact do_cl _ _
      have HT0 := Lib.hid (HTOT.out (k + 1))
      have HKK : Hid (os[k].kd = os[k].kd) := rfl
      clear hok hg hL E2
      generalize doR (foldB bk0 (os.take k)) os[k] = R at *
      obtain ⟨re, rh, rs, rn⟩ := R
      simp only at HDO HERR
      generalize hbb : foldB bk0 (os.take (k + 1)) = b' at *
      have HBB := Lib.hid hbb
      clear hbb
      generalize foldB bk0 (os.take k) = b at *
      generalize os[k].legs = L at *
      generalize os[k].cl = cl at *
      generalize os[k].sq = sq at *
      generalize os[k].kd = kd at *
      generalize os[k].acct = acct at *
      generalize os[k].peer = peer at *
      generalize os[k].sum = sum at *
      generalize os[k].per = per at *
      generalize os[k].hold = hold at *
      generalize os[k].note = note at *
      go_wp2_with fail
      (with_reducible refine (bcopy_any q b _ HBK.out).mono ?_)
      rintro e w5 ⟨qc, rfl, hc5, hf5, hqc⟩
      have HC5 := Lib.hid hc5
      have HB5 := Lib.hid (HBK.out.no hf5)
      have HW5 : Hid (Below w.heap.size w w5) := below_fr_no HWR.out hf5 HWR.out.size
      have HAP : Hid (∀ i, qc.all i → ¬ q.wr i) := fun i hi h => by have := hqc i hi; have := HBK.out.lt i (Pl.wr_all h); omega
      have HF5 := Lib.hid hf5
      have hb : (ad.add (k * 10)).block = ad.block := block_of_add _ _
      have q0' := hf5.cell_some q0 (fun h => h)
      have q1' := hf5.cell_some q1 (fun h => h)
      have q2' := hf5.cell_some q2 (fun h => h)
      have q3' := hf5.cell_some q3 (fun h => h)
      have q4' := hf5.cell_some q4 (fun h => h)
      have q5' := hf5.cell_some q5 (fun h => h)
      have q6' := hf5.cell_some q6 (fun h => h)
      have q7' := hf5.cell_some q7 (fun h => h)
      have q8' := hf5.cell_some q8 (fun h => h)
      have q9' := hf5.cell_some q9 (fun h => h)
      have HQ2 := Lib.hid q2'
      have HAD : Hid (¬ q.wr ad.block) := fun h => by have := HQL.out _ (Pl.wr_all h); omega
      clear hc5 hf5 hqc q0 q1 q2 q3 q4 q5 q6 q7 q8 q9 hb
      go_wp2_with fail
      (with_reducible refine (HDO.out _ HB5.out HW5.out).mono ?_)
      rintro e w6 ⟨rfl, hb6, hf6⟩
      have HB6 := Lib.hid hb6
      have HC6 := Lib.hid (HC5.out.fr hf6 (fun i hi => HAP.out i hi))
      have HW6 : Hid (Below w.heap.size w w6) := below_fr HW5.out hf6 HW5.out.size (fun i hi => HQ.out i (Pl.wr_all hi))
      have HF6 : Hid (Fr q.wr w3 w6) := (HFR.out.trans (HF5.out.mono fun _ _ h => False.elim h)).trans hf6
      have k2 := hf6.cell_some HQ2.out (by simp only [block_of_add]; exact HAD.out)
      clear hb6 hf6 q0' q1' q2' q3' q4' q5' q6' q7' q8' q9'
      go_upto_region 10 with (fail)
      have hf7 : Fr No w6 (w6.alloc (.cells #[.int .i64 re, .int .i64 rh, .int .i64 rs, .int .i64 rn] 29)) := (Fr.refl _ _).alloc _
      have hr7 := Blk.new w6 29 #[.int .i64 re, .int .i64 rh, .int .i64 rs, .int .i64 rn]
      generalize w6.alloc (.cells #[.int .i64 re, .int .i64 rh, .int .i64 rs, .int .i64 rn] 29) = w7 at *
      have k7 := hf7.cell_some k2 (fun h => h)
      have r0 := hr7.cell 0
      have r1 := hr7.cell 1
      have r2 := hr7.cell 2
      have r3 := hr7.cell 3
      simp only [List.getElem?_toArray, List.getElem?_cons_zero, List.getElem?_cons_succ] at r0 r1 r2 r3
      have HB7 := Lib.hid (HB6.out.no hf7)
      have HC7 := Lib.hid (HC6.out.no hf7)
      have HW7 : Hid (Below w.heap.size w w7) := below_fr_no HW6.out hf7 HW6.out.size
      have HF7 : Hid (Fr q.wr w3 w7) := HF6.out.trans (hf7.mono fun _ _ h => False.elim h)
      clear hf7 hr7 k2 HB6 HC6 HW6 HF6 HB5 HC5 HW5 HF5
      go_cut [60] (fun a60 wx => a60 = .bool false ∧ Fr No w7 wx)
      case first =>
        have HSM := Lib.hid (bsame_any qc q b b' w7 HC7.out HB7.out)
        by_cases h0 : re = 0
        · subst h0
          by_cases h7 : kd = 7
          · rw [HASK.out h7, sameBk_refl] at HSM
            subst h7
            clear HERR HASK
            go_wp2_with fail
            (with_reducible refine HSM.out.mono ?_)
            rintro e w8 ⟨rfl, hf8⟩
            have HF8 := Lib.hid hf8
            have r0' := hf8.cell_some r0 (fun h => h)
            clear hf8 r0 r1 r2 r3 k7
            go_wp2_with fail
            go_meet
            exact ⟨rfl, HF8.out⟩
          · have hz : (kd == 7) = false := beq_eq_false_iff_ne.2 h7
            clear h7 HERR HASK HSM
            go_wp2_with fail
            go_meet
            exact ⟨rfl, Fr.refl _ _⟩
        · obtain ⟨e1, e2⟩ := HERR.out h0
          rw [e1, sameBk_refl] at HSM
          have hz : (re != 0) = true := by rw [bne_iff_ne]; exact h0
          obtain ⟨z1, z2, z3⟩ : rh = 0 ∧ rs = 0 ∧ rn = 0 := by
            unfold errR at e2
            simp only [Rp.mk.injEq] at e2
            exact ⟨e2.2.1, e2.2.2.1, e2.2.2.2⟩
          subst z1 z2 z3
          clear e1 e2 h0 HERR HASK
          go_wp2_with fail
          (with_reducible refine HSM.out.mono ?_)
          rintro e w8 ⟨rfl, hf8⟩
          have HF8 := Lib.hid hf8
          have r0' := hf8.cell_some r0 (fun h => h)
          have r1' := hf8.cell_some r1 (fun h => h)
          have r2' := hf8.cell_some r2 (fun h => h)
          have r3' := hf8.cell_some r3 (fun h => h)
          clear hf8 r0 r1 r2 r3 k7
          go_wp2_with fail
          go_meet
          exact ⟨rfl, HF8.out⟩
      case rest =>
        obtain ⟨rfl, hf8⟩ := hcut
        have HB8 := Lib.hid (HB7.out.no hf8)
        have HC8 := Lib.hid (HC7.out.no hf8)
        have HW8 : Hid (Below w.heap.size w wc) := below_fr_no HW7.out hf8 HW7.out.size
        have HF8 : Hid (Fr q.wr w3 wc) := HF7.out.trans (hf8.mono fun _ _ h => False.elim h)
        clear hf8 r0 r1 r2 r3 k7 HB7 HC7 HW7 HF7 HERR HASK
        go_wp2_with fail
        (with_reducible refine (baccts_any q b' _ HB8.out).mono ?_)
        rintro e w9 ⟨v9, rfl, ho9, hf9, hn9⟩
        obtain ⟨A9, c9, rfl, hl9, hc9⟩ := ho9.form
        have hg9 := fr_at_none hf9
        go_wp2_with fail
        (with_reducible refine (bholds_any q b' _ (HB8.out.no hg9)).mono ?_)
        rintro e w10 ⟨v10, rfl, ho10, hf10, -⟩
        obtain ⟨A10, c10, rfl, hl10, hc10⟩ := ho10.form
        have hg10 := fr_at_none hf10
        have HRA := Lib.hid ((ho9.fr hg10 (fun _ _ h => h)).rd)
        have HRH := Lib.hid ho10.rd
        have hg := hg9.trans hg10
        have HB10 := Lib.hid (HB8.out.no hg)
        have HC10 := Lib.hid (HC8.out.no hg)
        have HW10 : Hid (Below w.heap.size w w10) := below_fr_no HW8.out hg HW8.out.size
        have HF10 : Hid (Fr q.wr w3 w10) := HF8.out.trans (hg.mono fun _ _ h => False.elim h)
        have HST := Lib.hid (sts_held HB8.out.inv)
        have HSN := Lib.hid (HB8.out.inv.st.kp.good)
        have HOKA := Lib.hid (HB8.out.inv.st.kp.inv.ok)
        have hS12 : b'.S.length ≤ 12 := HB8.out.inv.st.kp.inv.len
        have hH96 : b'.H.length ≤ 96 := HB8.out.inv.st.len
        clear ho9 hf9 hn9 hg9 ho10 hf10 hg10 hg HB8 HC8 HW8 HF8
        generalize hSS : b'.S = S at *
        generalize hHH : b'.H = H at *
        clear hSS hHH
        go_wp2_with fail
        go_loopw [9, 10, 11] (fun tv sv jv ws => W1Rel w10 S tv sv jv ws) (fun _ _ jv _ => S.length - (intOf jv).toNat)
        case atStart => exact ⟨0, Nat.zero_le _, rfl, (by show _ = Value.int .i64 (wrap64 (total [])); rw [total_nil, wrap_zero]), (by show _ = Value.int .i64 (wrap64 (total [])); rw [total_nil, wrap_zero]), Fr.refl _ _⟩
        case round =>
          obtain ⟨j, hj, rfl, rfl, rfl, hfj⟩ := hrel
          have HFJ := Lib.hid hfj
          by_cases hjl : j < S.length
          · obtain ⟨aj, rfl, _, p0, p1, p2, p3⟩ := acs_at (HRA.out.fr (by omega) hfj (fun _ _ _ h => h)) j hjl
            have hok := HOKA.out S[j] (List.getElem_mem hjl)
            have hsn := HSN.out S[j] (List.getElem_mem hjl)
            unfold OkA In64 at hok
            have HT1 : Hid (wrap64 (wrap64 (total (hvs (S.take j))) + S[j].hv) = wrap64 (total (hvs (S.take (j + 1))))) := by
              show _ = _
              rw [wrap_add, hvs_takeT hjl]
            have HT2 : Hid (wrap64 (wrap64 (total (stsA (S.take j))) + S[j].st) = wrap64 (total (stsA (S.take (j + 1))))) := by
              show _ = _
              rw [wrap_add, sts_take hjl]
            generalize hq1 : wrap64 (total (hvs (S.take (j + 1)))) = t1 at *
            generalize hq2 : wrap64 (total (stsA (S.take (j + 1)))) = s1 at *
            have HQ1 := Lib.hid hq1
            have HQ2 := Lib.hid hq2
            clear hq1 hq2
            generalize wrap64 (total (hvs (S.take j))) = t0 at *
            generalize wrap64 (total (stsA (S.take j))) = s0 at *
            obtain ⟨⟨ok1, ok2⟩, ⟨ok3, ok4⟩, ⟨ok5, ok6⟩⟩ := hok
            have HW1 : Hid (IntKind.i64.wrap (S[j].hv - S[j].st) = S[j].hv - S[j].st) := IntWalk.i64_in _ ⟨by omega, by omega⟩
            have HW2 : Hid (IntKind.i64.wrap (-S[j].lim) = -S[j].lim) := IntWalk.i64_in _ ⟨by omega, by omega⟩
            have HZ : Hid (decide (S[j].hv - S[j].st < -S[j].lim) = false) := decide_eq_false (by omega)
            have hlm : 0 ≤ S[j].lim ∧ S[j].lim ≤ 9223372036854775807 := ⟨ok5, ok6⟩
            clear ok1 ok2 ok3 ok4 ok5 ok6 hsn hfj
            generalize S[j].name.toArray = nm at *
            generalize S[j].hv = vh at *
            generalize S[j].st = vs at *
            generalize S[j].lim = vl at *
            go_upto_region 19 with (fail)
            go_cut [110] (fun a110 wx => a110 = .bool false ∧ Fr No wr wx)
            case first =>
              have hw1 := HW1.out
              have hw2 := HW2.out
              have hz := HZ.out
              by_cases hlv : vl < 1099511627776
              · have hd : decide (vl < 1099511627776) = true := decide_eq_true hlv
                clear hlv
                go_wp2
                go_quiet (fail)
                go_wp2_with fail
                go_meet
                exact ⟨rfl, (Fr.refl _ _).drewN _⟩
              · have hd : decide (vl < 1099511627776) = false := decide_eq_false hlv
                clear hlv
                go_wp2
                go_quiet (fail)
                go_wp2_with fail
                go_meet
                exact ⟨rfl, (Fr.refl _ _).drewN _⟩
            case rest =>
              obtain ⟨rfl, hfx⟩ := hcut
              have HFX : Hid (Fr No w10 wc) := HFJ.out.trans hfx
              clear hfx p0 p1 p2 p3
              rw [HT1.out, HT2.out]
              go_wp2
              go_roundw
              case rel => exact ⟨j + 1, by omega, by go_num, by rw [HQ1.out], by rw [HQ2.out], HFX.out⟩
              case measure => simp [intOf]; omega
          · obtain rfl : j = S.length := by omega
            rw [List.take_length, HT0.out, wrap_zero, HST.out]
            have HRJ := Lib.hid (HRH.out.fr (by omega) hfj (fun _ _ _ h => h))
            have HBJ := Lib.hid (HB10.out.no hfj)
            have HCJ := Lib.hid (HC10.out.no hfj)
            have HWJ : Hid (Below w.heap.size w wr) := below_fr_no HW10.out hfj HW10.out.size
            have HFJ2 : Hid (Fr q.wr w3 wr) := HF10.out.trans (hfj.mono fun _ _ h => False.elim h)
            generalize htt : total (H.map Hd.sum) = T at *
            have HTT := Lib.hid htt
            clear hfj htt HFJ HRA HRH HB10 HC10 HW10 HF10 HST HSN HOKA HT0
            generalize wr = wz at *
            go_wp2_with fail
            go_loopw [10, 12] (fun sv jv ws => W2Rel wz T H sv jv ws) (fun _ jv _ => H.length - (intOf jv).toNat)
            case atStart => exact ⟨0, Nat.zero_le _, rfl, (by show _ = Value.int .i64 (wrap64 (T - total [])); rw [total_nil, Int.sub_zero]), rfl⟩
            case round =>
              obtain ⟨j, hj, rfl, rfl, rfl⟩ := hrel
              by_cases hjl : j < H.length
              · obtain ⟨aj, rfl, _, p0, p1, p2⟩ := hd_at HRJ.out j hjl
                have HT1 : Hid (wrap64 (wrap64 (T - total ((H.take j).map Hd.sum)) - H[j].sum) = wrap64 (T - total ((H.take (j + 1)).map Hd.sum))) := by
                  show _ = _
                  rw [wrap_sub, sums_takeH hjl]
                  congr 1
                  omega
                generalize hq2 : wrap64 (T - total ((H.take (j + 1)).map Hd.sum)) = s1 at *
                have HQ2 := Lib.hid hq2
                clear hq2
                generalize wrap64 (T - total ((H.take j).map Hd.sum)) = s0 at *
                generalize H[j].num = hn at *
                generalize H[j].acct.toArray = ha at *
                generalize H[j].sum = hs at *
                go_wp2_with fail
                rw [HT1.out]
                go_roundw
                case rel => exact ⟨j + 1, by omega, by go_num, by rw [HQ2.out], rfl⟩
                case measure => simp [intOf]; omega
              · obtain rfl : j = H.length := by omega
                rw [List.take_length, HTT.out, Int.sub_self, wrap_zero]
                have hcl := HCL.out
                go_wp2_with fail
                (with_reducible refine (bclosed_any q b' _ HBJ.out).mono ?_)
                rintro e wx ⟨rfl, rfl⟩
                go_wp2_with fail
                (with_reducible refine (bclosed_any qc b _ HCJ.out).mono ?_)
                rintro e wx ⟨rfl, rfl⟩
                go_wp2
                go_roundw
                case rel => exact ⟨k + 1, by omega, by go_num, by rw [HBB.out]; exact HBJ.out, HFJ2.out⟩
                case measure => simp [intOf]; omega
    · obtain rfl : k = os.length := by omega
      go_wp2
      go_ret
      exact ⟨rfl, HWR.out⟩
end Go.Proofs.YtgklifbfbjdobaaGreat
