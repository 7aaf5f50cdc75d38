/- FoataLevels: the walk. -/
import Derived.Test.YtnphncemghfkbaaGreatFoS0
import Derived.Deep.CutBlock
import Derived.Deep.DeepCutAuto
namespace Go.Proofs.YtnphncemghfkbaaGreat
open Go.RowKit Go.My Go.Maps Go.WideMaps
set_option linter.unusedSimpArgs false
set_option linter.unusedVariables false
attribute [local go_sem ↓] Go.wp_at_zero Go.wp_at_succ

def LvCnt (w : World) (S : List (List Od)) (nv iv : Value) (wr : World) : Prop := ∃ i : Nat, i ≤ S.length ∧ iv = .int .i64 i ∧ nv = .int .i64 ((flatS (S.take i)).length : Nat) ∧ Fr No w wr
def LvHd (w : World) (row : List Od) (o : Od) (hv jv : Value) (wr : World) : Prop := ∃ j : Nat, j ≤ row.length ∧ jv = .int .i64 j ∧ hv = .bool ((row.take j).any fun x => clashB x o) ∧ Fr No w wr
theorem any_take (row : List Od) (o : Od) (j : Nat) (hj : j < row.length) : ((row.take (j + 1)).any fun x => clashB x o) = (((row.take j).any fun x => clashB x o) || clashB row[j] o) := by
  rw [List.take_succ_eq_append_getElem hj, List.any_append]
  simp
set_option maxRecDepth 100000 in
set_option maxHeartbeats 2000000 in
theorem foataLevels_walk (A : Option Addr) (c : Nat) (la : List Od) (w : World) (ra : OdsS w w (Lt w.heap.size) A la) (ca : la.length ≤ c) (ma : c ≤ maxLen) :
    Calls Tryz.prog 7 #[.slice A la.length c] w fun e w' => e = .returned (.bool true) ∧ Below w.heap.size w w' := by
  have HLV : Hid (∀ W, _) := fun W => lives11 W
  have HA : Hid (∀ W, Fr No w W → _) := fun W hW => few_own11 w W A c 60 la ra ca ma (by omega) hW
  have HRA := Lib.hid (lawL_rt la 60)
  have hal := lawL_len la 60
  clear ra ca ma
  generalize hga : lawL la 60 = a at *
  clear hga
  generalize la.length = na at *
  have HST : Hid (∀ W A c, Ls W Tr A c a → Calls Tryz.prog 14 #[.slice A a.length c] W (StepsRet W a)) := fun W A c h => steps_any W Tr A c a h (by omega)
  have HCL : Hid (∀ (w1 : World) (F G : Nat → Prop) (x y : Od) (v u : Value), LgS w1 F v x.legs → LgS w1 G u y.legs → x.legs.length ≤ 100000 → y.legs.length ≤ 100000 → ∀ W, Fr No w1 W → Calls Tryz.prog 26 #[x.val v, y.val u] W fun e w' => e = .returned (.bool (clashB x y)) ∧ Fr No W w') := fun w1 F G x y v u h1 h2 h3 h4 W hW => clash_any F G x y v u W (h1.no hW) (h2.no hW) h3 h4
  go_enter Tryz.func7, Tryz.ntmps7
  go_wp2_with fail
  (with_reducible refine (HLV.out _).mono ?_)
  rintro e w1 ⟨rfl, hf1⟩
  go_wp2_with fail
  refine (HA.out _ hf1).mono ?_
  rintro e w2 ⟨A2, c2, m2, rfl, hf2, HA2⟩
  go_wp2_with fail
  (with_reducible refine (HA2 _ (Fr.refl _ _)).mono ?_)
  rintro e w3 ⟨A3, c3, rfl, hl3, hf3, -⟩
  clear HA2
  have HF3 := Lib.hid ((hf1.trans hf2).trans hf3)
  have HL3 := Lib.hid hl3
  clear hf1 hf2 hf3 hl3 HA HLV
  go_wp2_with fail
  (with_reducible refine (HST.out _ _ _ HL3.out).mono ?_)
  rintro e w5 ⟨A5, c5, S, rfl, -, hs5, hf5, hS0, -⟩
  have hS : StepsO a S := hS0 ((rightL_iff _).2 HRA.out)
  have HS5 := Lib.hid hs5
  have HF5 := Lib.hid (HF3.out.trans hf5)
  have hsl := stepsLen hS
  have hfl : (flatS S).length = a.length := (ak_flat HRA.out hS).1.symm
  have HAP : Hid (∀ i (hi : i < S.length) j k (hjk : j < k) (hk : k < S[i].length), clashB (S[i][j]'(by omega)) S[i][k] = false) := fun i hi j k hjk hk => hS.apart clashB_comm ltI_irr HRA.out.nodup hi hjk hk
  have HSRT : Hid (∀ i (hi : i < S.length) j k (hjk : j < k) (hk : k < S[i].length), ltI (S[i][j]'(by omega)).id S[i][k].id) := fun i hi j k hjk hk => List.pairwise_iff_getElem.1 ((hS.2.2 i hi).1) j k (by omega) hk hjk
  have HHD : Hid (∀ m (hi : m + 1 < S.length) k (hk : k < S[m + 1].length), ((S[m]'(by omega)).any fun x => clashB x S[m + 1][k]) = true) := fun m hi k hk => by
    obtain ⟨x, hx, hc⟩ := hS.held HRA.out.nodup (i := m + 1) (by omega) hi (List.getElem_mem hk)
    exact List.any_eq_true.2 ⟨x, hx, hc⟩
  have HFL : Hid ((flatS S).length = a.length ∧ a.length ≤ 60) := ⟨hfl, hal⟩
  have hsl60 : S.length ≤ 60 := by omega
  clear hf5 hs5 hS0 hS hsl hfl HF3 HL3 HST
  go_wp2
  go_loopw [4, 5] (fun nv iv wr => LvCnt w5 S nv iv wr) (fun _ iv _ => S.length - (intOf iv).toNat)
  case atStart => exact ⟨0, Nat.zero_le _, rfl, rfl, Fr.refl _ _⟩
  case round =>
    obtain ⟨i, hi, rfl, rfl, hfr⟩ := hrel
    have hi62 : (i : Int) ≤ 60 := by omega
    have hni : (flatS (S.take i)).length ≤ 60 := by
      have := flatS_le (S := S) i
      have := HFL.out
      omega
    by_cases hlt : i < S.length
    · have hrl : S[i].length ≤ 60 := by
        have := len_mem (List.getElem_mem hlt)
        have := HFL.out
        omega
      have HSUM : Hid ((flatS (S.take (i + 1))).length = (flatS (S.take i)).length + S[i].length) := by show _ = _; rw [flatS_take hlt, List.length_append]
      obtain ⟨ad0, Ar0, cr0, e0, z00, _⟩ := (HS5.out.no hfr).at_ i hlt
      subst e0
      have HFO := Lib.hid hfr
      clear hfr
      generalize (flatS (S.take i)).length = nn at *
      have hii : (i : Int) < (S.length : Int) := by omega
      generalize wr = wo at *
      go_wp2
      go_loopw [6] (fun kv wr => PrRel11 w5 S[i].length kv wr) (fun kv _ => S[i].length - (intOf kv).toNat)
      case atStart => exact ⟨0, Nat.zero_le _, rfl, HFO.out⟩
      case round =>
        obtain ⟨k, hk, rfl, hfr⟩ := hrel
        have hk62 : (k : Int) ≤ 60 := by omega
        obtain ⟨ad, Ar, cr, e1, z0, _⟩ := (HS5.out.no hfr).at_ i hlt
        injection e1 with e1
        subst e1
        clear z00
        by_cases hkl : k < S[i].length
        · have HFK := Lib.hid hfr
          have hkli : (k : Int) < (S[i].length : Int) := by omega
          clear hfr
          generalize wr = wk at *
          go_upto_block 4 with (fail)
          go_cut [7, 40] (fun a7 a40 wx => a7 = .bool true ∧ Fr No w5 wx)
          case first =>
            by_cases h0 : i = 0
            · subst h0
              have h00 : (0 : Int) < (S.length : Int) := by omega
              go_wp2
              refine wp_loop_rounds 1 ?_
              rw [rounds_succ]
              go_wp2
              go_meet
              exact ⟨rfl, HFK.out⟩
            · obtain ⟨m, hm⟩ : ∃ m, i = m + 1 := ⟨i - 1, by omega⟩
              have hmi : (i : Int) - 1 = (m : Int) := by omega
              have hmw : wrap64 ((i : Int) - 1) = (m : Int) := by rw [hmi]; exact IntWalk.wrap64_in _ ⟨by omega, by omega⟩
              have hip : (0 : Int) < (i : Int) := by omega
              have hie : ((i : Int) == 0) = false := beq_eq_false_iff_ne.2 (by omega)
              have hien : (i == 0) = false := beq_eq_false_iff_ne.2 h0
              have hmS : m < S.length := by omega
              have hmsi : (m : Int) < (S.length : Int) := by omega
              have hml : S[m].length ≤ 60 := by
                have := len_mem (List.getElem_mem hmS)
                have := HFL.out
                omega
              have HHK : Hid (((S[m]).any fun x => clashB x S[i][k]) = true) := by
                show _ = _
                subst hm
                exact HHD.out m hlt k hkl
              have hi0d : decide (i = 0) = false := decide_eq_false h0
              clear hm
              rw [hie]
              go_wp2
              go_loopw [7, 8] (fun hv jv wr => LvHd w5 S[m] S[i][k] hv jv wr) (fun _ jv _ => S[m].length - (intOf jv).toNat)
              case atStart => exact ⟨0, Nat.zero_le _, rfl, rfl, HFK.out⟩
              case round =>
                obtain ⟨j, hj, rfl, rfl, hfr⟩ := hrel
                have hj62 : (j : Int) ≤ 60 := by omega
                obtain ⟨ad1, Am, cm, e8, zm, hrowm⟩ := (HS5.out.no hfr).at_ m hmS
                obtain ⟨ad2, Ai, ci, e9, zi, hrowi⟩ := (HS5.out.no hfr).at_ i hlt
                injection e8 with e8
                injection e9 with e9
                subst e8 e9
                clear z0
                by_cases hjl : j < S[m].length
                · obtain ⟨od, v, rfl, _, _, _, hLk, q0, q1, q2, q3, q4, q5, q6, q7, q8, q9⟩ := hrowi.ods.at_ k hkl
                  obtain ⟨od', u, rfl, _, _, _, hLj, p0, p1, p2, p3, p4, p5, p6, p7, p8, p9⟩ := hrowm.ods.at_ j hjl
                  obtain ⟨B, d, rfl, hd1, hd2⟩ := hLk.form
                  obtain ⟨B', d', rfl, hd1', hd2'⟩ := hLj.form
                  have HC := Lib.hid (HCL.out wr _ _ _ _ _ _ hLj hLk (hrowm.s _ (List.getElem_mem hjl)) (hrowi.s _ (List.getElem_mem hkl)))
                  have HANY := Lib.hid (any_take S[m] S[i][k] j hjl)
                  have HFR := Lib.hid hfr
                  have hne : Nonempty (WIn (Fr No wr)) := ⟨⟨_, Fr.refl _ _⟩⟩
                  have hji : (j : Int) < (S[m].length : Int) := by omega
                  have HNX : Hid (∀ r W, ((S[m].take (j + 1)).any fun x => clashB x S[i][k]) = r → Fr No wr W → LvHd w5 S[m] S[i][k] (.bool r) (.int .i64 ((j + 1 : Nat) : Int)) W) := fun r W h1 h2 => ⟨j + 1, hjl, rfl, by rw [h1], hfr.trans h2⟩
                  unfold Od.val Od.cs at HC
                  simp only [List.toArray] at HC
                  clear hLj hLk hrowi hrowm hfr
                  generalize ((S[m].take j).any fun x => clashB x S[i][k]) = r at *
                  generalize S[m][j] = oj at *
                  generalize S[i][k] = ok at *
                  obtain ⟨clj, sqj, kdj, acctj, peerj, sumj, lgj, perj, holdj, notej⟩ := oj
                  obtain ⟨clk, sqk, kdk, acctk, peerk, sumk, lgk, perk, holdk, notek⟩ := ok
                  simp only at *
                  have Zm := fun x : WIn (Fr No wr) => x.h.cell_some zm (fun h => h)
                  have Zi := fun x : WIn (Fr No wr) => x.h.cell_some zi (fun h => h)
                  have Q0 := fun x : WIn (Fr No wr) => x.h.cell_some q0 (fun h => h)
                  have P0 := fun x : WIn (Fr No wr) => x.h.cell_some p0 (fun h => h)
                  have Q1 := fun x : WIn (Fr No wr) => x.h.cell_some q1 (fun h => h)
                  have P1 := fun x : WIn (Fr No wr) => x.h.cell_some p1 (fun h => h)
                  have Q2 := fun x : WIn (Fr No wr) => x.h.cell_some q2 (fun h => h)
                  have P2 := fun x : WIn (Fr No wr) => x.h.cell_some p2 (fun h => h)
                  have Q3 := fun x : WIn (Fr No wr) => x.h.cell_some q3 (fun h => h)
                  have P3 := fun x : WIn (Fr No wr) => x.h.cell_some p3 (fun h => h)
                  have Q4 := fun x : WIn (Fr No wr) => x.h.cell_some q4 (fun h => h)
                  have P4 := fun x : WIn (Fr No wr) => x.h.cell_some p4 (fun h => h)
                  have Q5 := fun x : WIn (Fr No wr) => x.h.cell_some q5 (fun h => h)
                  have P5 := fun x : WIn (Fr No wr) => x.h.cell_some p5 (fun h => h)
                  have Q6 := fun x : WIn (Fr No wr) => x.h.cell_some q6 (fun h => h)
                  have P6 := fun x : WIn (Fr No wr) => x.h.cell_some p6 (fun h => h)
                  have Q7 := fun x : WIn (Fr No wr) => x.h.cell_some q7 (fun h => h)
                  have P7 := fun x : WIn (Fr No wr) => x.h.cell_some p7 (fun h => h)
                  have Q8 := fun x : WIn (Fr No wr) => x.h.cell_some q8 (fun h => h)
                  have P8 := fun x : WIn (Fr No wr) => x.h.cell_some p8 (fun h => h)
                  have Q9 := fun x : WIn (Fr No wr) => x.h.cell_some q9 (fun h => h)
                  have P9 := fun x : WIn (Fr No wr) => x.h.cell_some p9 (fun h => h)
                  clear zi q0 q1 q2 q3 q4 q5 q6 q7 q8 q9 p0 p1 p2 p3 p4 p5 p6 p7 p8 p9
                  cases r
                  · generalize clashB ⟨clj, sqj, kdj, acctj, peerj, sumj, lgj, perj, holdj, notej⟩ ⟨clk, sqk, kdk, acctk, peerk, sumk, lgk, perk, holdk, notek⟩ = r2 at *
                    go_upto_region 17 with (fail)
                    clear zm
                    refine wp_region_in (D := Fr No wr) (by kernel_rfl) (by kernel_rfl) (Fr.refl _ _).drew ?_
                    repeat (go_big_quiet_step ((first | (go_at_call 26; refine Calls.in_of (v := .bool r2) _ fun W hW => ?_; (with_reducible refine (HC.out W hW).mono ?_); exact fun _ _ h => ⟨h.1, Fr.trans hW h.2⟩))))
                    refine wpQuiet_nil ?_
                    rintro wq ⟨⟨w0, hq⟩, hw0⟩
                    obtain rfl : wq = w0 := hw0
                    have HRL := Lib.hid (HNX.out r2 wq (by rw [HANY.out, Bool.false_or]) hq)
                    go_wp2
                    go_roundw
                    case rel =>
                      obtain ⟨j', h1, h2, h3, h4⟩ := HRL.out
                      exact ⟨j', h1, by rw [← h2]; go_num, h3, h4⟩
                    case measure => simp [intOf]; omega
                  · go_upto_region 17 with (fail)
                    clear zm
                    refine wp_region_in (D := Fr No wr) (by kernel_rfl) (by kernel_rfl) (Fr.refl _ _).drew ?_
                    repeat (go_big_quiet_step ((fail)))
                    refine wpQuiet_nil ?_
                    rintro wq ⟨⟨w0, hq⟩, hw0⟩
                    obtain rfl : wq = w0 := hw0
                    have HRL := Lib.hid (HNX.out true wq (by rw [HANY.out, Bool.true_or]) hq)
                    go_wp2
                    go_roundw
                    case rel =>
                      obtain ⟨j', h1, h2, h3, h4⟩ := HRL.out
                      exact ⟨j', h1, by rw [← h2]; go_num, h3, h4⟩
                    case measure => simp [intOf]; omega
                · obtain rfl : j = S[m].length := by omega
                  rw [List.take_length, HHK.out]
                  have HFA := Lib.hid hfr
                  clear hrowm hrowi hfr
                  go_wp2
                  go_meet
                  exact ⟨rfl, HFA.out⟩
          case rest =>
            obtain ⟨rfl, hfa⟩ := hcut
            have HFA := Lib.hid hfa
            clear hfa
            go_wp2
            go_loopw [9] (fun jv wr => PrRel11 w5 k jv wr) (fun jv _ => k - (intOf jv).toNat)
            case atStart => exact ⟨0, Nat.zero_le _, rfl, HFA.out⟩
            case round =>
              obtain ⟨j, hj, rfl, hfr⟩ := hrel
              have hj62 : (j : Int) ≤ 60 := by omega
              by_cases hjl : j < k
              · have hjr : j < S[i].length := by omega
                obtain ⟨ad, Ar, cr, e9, z0, hrow⟩ := (HS5.out.no hfr).at_ i hlt
                injection e9 with e9
                subst e9
                obtain ⟨od, v, rfl, _, _, _, hLk, q0, q1, q2, q3, q4, q5, q6, q7, q8, q9⟩ := hrow.ods.at_ k hkl
                obtain ⟨od', u, e, _, _, _, hLj, p0, p1, p2, p3, p4, p5, p6, p7, p8, p9⟩ := hrow.ods.at_ j hjr
                injection e with e
                subst e
                obtain ⟨B, d, rfl, hd1, hd2⟩ := hLk.form
                obtain ⟨B', d', rfl, hd1', hd2'⟩ := hLj.form
                have HC := Lib.hid (HCL.out wr _ _ _ _ _ _ hLj hLk (hrow.s _ (List.getElem_mem hjr)) (hrow.s _ (List.getElem_mem hkl)))
                rw [HAP.out i hlt j k hjl hkl] at HC
                have hsrt := HSRT.out i hlt j k hjl hkl
                have HFR := Lib.hid hfr
                have hne : Nonempty (WIn (Fr No wr)) := ⟨⟨_, Fr.refl _ _⟩⟩
                have hjii : (j : Int) < (S[i].length : Int) := by omega
                have hkii : (k : Int) < (S[i].length : Int) := by omega
                have hjki : (j : Int) < (k : Int) := by omega
                unfold Od.val Od.cs at HC
                unfold Od.id ltI at hsrt
                simp only [List.toArray] at HC hsrt
                clear hLj hLk hrow hfr
                have hn1 := 0
                generalize S[i][j] = oj at *
                generalize S[i][k] = ok at *
                obtain ⟨clj, sqj, kdj, acctj, peerj, sumj, lgj, perj, holdj, notej⟩ := oj
                obtain ⟨clk, sqk, kdk, acctk, peerk, sumk, lgk, perk, holdk, notek⟩ := ok
                simp only at *
                go_upto_region 21 with (fail)
                refine lvl21 wr ad0 od S.length c5 i k j S[i].length cr B' B d' d lgj.length lgk.length clj sqj kdj sumj perj holdj clk sqk kdk sumk perk holdk acctj peerj notej acctk peerk notek hii hkii hjii hsrt z0 p0 p1 p2 p3 p4 p5 p6 p7 p8 p9 q0 q1 q2 q3 q4 q5 q6 q7 q8 q9 HC ?_
                intros
                rename_i wq hq
                go_wp2
                go_roundw
                case rel => exact ⟨j + 1, hjl, by go_num, HFR.out.trans hq⟩
                case measure => simp [intOf]; omega
              · obtain rfl : j = k := by omega
                have HFR := Lib.hid hfr
                clear hfr
                go_wp2
                go_roundw
                case rel => exact ⟨j + 1, hkl, by go_num, HFR.out⟩
                case measure => simp [intOf]; omega
        · obtain rfl : k = S[i].length := by omega
          have HFR := Lib.hid hfr
          clear hfr
          go_wp2
          go_roundw
          case rel => exact ⟨i + 1, hlt, by go_num, by rw [HSUM.out]; go_num, HFR.out⟩
          case measure => simp [intOf]; omega
    · obtain rfl : i = S.length := by omega
      rw [List.take_length] at hni ⊢
      have HFR := Lib.hid (HF5.out.trans hfr)
      have hfe := HFL.out.1
      rw [hfe]
      clear hfr
      go_wp2
      go_ret
      exact ⟨by simp, HFR.out.belowNo⟩
end Go.Proofs.YtnphncemghfkbaaGreat
