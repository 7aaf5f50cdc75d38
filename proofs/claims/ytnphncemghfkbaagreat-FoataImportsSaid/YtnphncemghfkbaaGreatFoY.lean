/- The document's Export of steps. -/
import Derived.Test.YtnphncemghfkbaaGreatFoX
import Derived.Test.YtnphncemghfkbaaGreatQ17
import Derived.Test.YtnphncemghfkbaaGreatRefB11
namespace Go.Proofs.YtnphncemghfkbaaGreat
open Go.RowKit Go.My Go.Maps Go.WideMaps
set_option linter.unusedSimpArgs false
set_option linter.unusedVariables false
attribute [local go_sem ↓] Go.wp_at_zero Go.wp_at_succ

theorem refnum11_any (n : Nat) (w : World) (hn : n ≤ 1000000) : Calls Tryz.prog 34 #[.int .i64 n] w (RetBN w (nB (n : Int))) :=
  (refnum_any (n : Int) w (by omega) (by omega)).mono fun e w' h => by
    obtain ⟨v, rfl, ho, hf, hnw⟩ := h
    obtain ⟨A, c, rfl, _, _⟩ := ho.form
    exact ⟨A, c, rfl, ho, fr_at_none hf, newer_none hnw⟩
set_option maxRecDepth 100000 in
set_option maxHeartbeats 2000000 in
theorem refexport_any (w : World) (F : Nat → Prop) (A : Option Addr) (c : Nat) (l : List Od) (hl : Ls w F A c l) (h100 : ∀ o ∈ l, o.legs.length ≤ 100) :
    Calls Tryz.prog 13 #[.slice A l.length c] w (ExpRet w l) := by
  have H100 := Lib.hid h100
  clear h100
  by_cases h200 : l.length ≤ 200
  · have HRT := Lib.hid (refright10_any w w F A c l hl.ods hl.n)
    have hi200 : ¬ (200 : Int) < (l.length : Int) := by omega
    have hd200 : decide ((200 : Int) < (l.length : Int)) = false := decide_eq_false hi200
    have hd2 : decide (200 < l.length) = false := decide_eq_false (by omega)
    cases hr : rightL l
    · rw [hr] at HRT
      have HX : Hid (expB l = false) := by show _ = _; unfold expB; rw [hr]; simp
      clear hl
      go_enter Tryz.func13, Tryz.ntmps13
      go_wp2_with fail
      (with_reducible refine HRT.out.mono ?_)
      rintro e w1 ⟨rfl, hf1⟩
      go_wp2
      go_ret2
      exact ⟨hf1, fun h => (by rw [HX.out] at h; cases h), fun _ => rfl⟩
    · rw [hr] at HRT
      have HST : Hid (∀ W, Fr No w W → Calls Tryz.prog 16 #[.slice A l.length c] W (StepsRet W l)) := fun W hW => refsteps_any W F A c l (hl.no hW) (by omega)
      have HR : Hid (rightL l = true) := hr
      have HRt : Hid (Rt Od.id l) := (rightL_iff _).1 hr
      have HXT : Hid ((∀ o ∈ l, rightO o = true) → expB l = true) := fun h => by
        unfold expB
        rw [hr, decide_eq_true h200, List.all_eq_true.2 h]
        rfl
      have HXF : Hid ((∃ o ∈ l, rightO o = false) → expB l = false) := fun ⟨o, ho, hb⟩ => by
        unfold expB
        have : l.all rightO = false := by
          rw [List.all_eq_false]
          exact ⟨o, ho, by rw [hb]; decide⟩
        rw [this]
        simp
      have HNM : Hid (∀ (W : World) (n : Nat), n ≤ 1000000 → Calls Tryz.prog 34 #[.int .i64 n] W (RetBN W (nB (n : Int)))) := fun W n hn => refnum11_any n W hn
      clear hl hr
      go_enter Tryz.func13, Tryz.ntmps13
      go_wp2_with fail
      (with_reducible refine HRT.out.mono ?_)
      rintro e w1 ⟨rfl, hf1⟩
      go_wp2_with fail
      (with_reducible refine (HST.out _ hf1).mono ?_)
      rintro e w2 ⟨A2, c2, S, rfl, hc2, hS, hf2, hS1, -⟩
      have hSO := hS1 HR.out
      have HSO := Lib.hid hSO
      have HS := Lib.hid hS
      have HF2 := Lib.hid (hf1.trans hf2)
      have hmem := hSO.mem HRt.out.nodup
      have HMEM : Hid (∀ o, o ∈ flatS S ↔ o ∈ l) := hmem
      have hFL : (flatS S).length = l.length := by
        have := (hSO.lay clashB_comm ltI_irr HRt.out).1
        exact this.symm
      have hSl : S.length ≤ 200 := by
        have h1 := hSO.length
        rw [topL_levN] at h1
        have : maxN (levN clashB l) ≤ l.length := maxN_le fun n hn => (levN_le clashB l n hn).2
        omega
      have HFL : Hid ((flatS S).length ≤ 200) := by show _ ≤ _; omega
      have HOB : Hid (∀ i k (h1 : i < S.length) (h2 : k < S[i].length) W v, S[i][k].ok → LgS W (Lt W.heap.size) v S[i][k].legs → ∀ W', Fr No W W' → Calls Tryz.prog 35 #[S[i][k].val v] W' (RetNE W' (obL S[i][k]) (obE S[i][k]))) := fun i k h1 h2 W v hok hv W' hW => refbytes_any _ _ _ _ hok (hv.no hW) (H100.out _ ((HMEM.out _).1 (flatS_mem h1 (List.getElem_mem h2))))
      have HTX : Hid (∀ (W : World) (s : List UInt8), s.length ≤ 1000 → Calls Tryz.prog 36 #[.string ⟨s.toArray⟩] W (RetB (tB s) W)) := fun W s hs => by
        have h := reftext_any ⟨s.toArray⟩ W (by show s.toArray.size ≤ _; simp; omega)
        refine h.mono ?_
        rintro e w' h1
        refine RetB.of ?_
        have e1 : (tB s).length = (enc (zig (⟨s.toArray⟩ : ByteArray).size)).length + (⟨s.toArray⟩ : ByteArray).size := by
          unfold tB
          rw [List.length_append]
          rfl
        have e2 : bs (tB s) = bs (enc (zig (⟨s.toArray⟩ : ByteArray).size) ++ (⟨s.toArray⟩ : ByteArray).data.toList) := by
          unfold tB
          rfl
        rw [e1, e2]
        exact h1
      have hSi : (S.length : Int) ≤ 200 := by omega
      clear hf1 hf2 hS hSO hS1 hmem hFL
      go_wp2_with fail
      (with_reducible refine (HNM.out _ S.length (by omega)).mono ?_)
      rintro e w3 ⟨A3, c3, rfl, ho3, hf3, hn3⟩
      have HO3 := Lib.hid ho3
      have HF3 := Lib.hid hf3
      have HN3 := Lib.hid hn3
      have HLB : Hid (∀ k : Nat, (nB (k : Int)).length ≤ 10) := fun k => nB_len _
      have HBO : Hid (∀ o : Od, rightO o = true → (bytesO o).length ≤ 1000 ∧ obL o = bytesO o ∧ obE o = 0) := fun o h => by
        have h1 := obL_len o
        unfold obL at h1
        rw [if_pos h] at h1
        exact ⟨h1, by unfold obL; rw [if_pos h], by unfold obE; rw [if_pos h]⟩
      have HBE : Hid (∀ o : Od, rightO o = false → obE o = 1) := fun o h => by unfold obE; rw [if_neg (by rw [h]; decide)]
      clear ho3 hf3 hn3
      go_wp2
      go_loopw [5, 6] (fun bv iv wr => E1Rel w2 S bv iv wr) (fun _ iv _ => S.length - (intOf iv).toNat)
      case atStart =>
        refine ⟨0, A3, c3, _, Nat.zero_le _, rfl, ?_, rfl, HO3.out, HF3.out, HN3.out, fun o ho => (by cases ho), ?_⟩
        · rw [List.take_zero]
          unfold rowsB
          simp
        · have := HLB.out S.length
          omega
      case round =>
        obtain ⟨i, A4, c4, b, hi, rfl, hb, rfl, hown, hfr, hnew, hok, hlen⟩ := hrel
        have hi62 : (i : Int) ≤ 1000000 := by omega
        by_cases hlt : i < S.length
        · obtain ⟨ad, Ar, cr, rfl, z0, hrow⟩ := (HS.out.no hfr).at_ i hlt
          have hrl : S[i].length ≤ 200 := by
            have h1 := flatS_le (S := S) (i + 1)
            rw [flatS_take hlt, List.length_append] at h1
            have := HFL.out
            omega
          have HROW : Hid (∀ W, Fr No w2 W → ∃ A' c', (Value.slice A' S[i].length c' = .slice Ar S[i].length cr) ∧ Ls W (Lt W.heap.size) A' c' S[i]) := fun W hW => by
            obtain ⟨ad1, A1, c1, e1, y0, y1⟩ := (HS.out.no hW).at_ i hlt
            obtain ⟨ad2, A2, c2, e2, z1, z2⟩ := HS.out.at_ i hlt
            injection e1 with e1
            injection e2 with e2
            subst e1 e2
            have k1 := hW.cell_some z1 (fun h => h)
            have k2 := hfr.cell_some z1 (fun h => h)
            rw [y0] at k1
            rw [z0] at k2
            simp only [Option.some.injEq] at k1 k2
            exact ⟨A1, c1, k1.trans k2.symm, y1⟩
          have HCE : Hid (∀ W, Fr No w2 W → W.cell? (ad.add i) = some (.slice Ar S[i].length cr)) := fun W hW => by
            obtain ⟨ad2, A2, c2, e2, z1, z2⟩ := HS.out.at_ i hlt
            injection e2 with e2
            subst e2
            have k1 := hW.cell_some z1 (fun h => h)
            have k2 := hfr.cell_some z1 (fun h => h)
            rw [z0] at k2
            rw [k1, ← k2]
          have HOWN := Lib.hid hown
          have HFR := Lib.hid hfr
          have HNEW := Lib.hid hnew
          have HOK := Lib.hid hok
          have HLEN := Lib.hid hlen
          have HB := Lib.hid hb
          have hbl : b.length ≤ 300000 := by
            have h1 := flatS_le (S := S) i
            have := HFL.out
            omega
          have HMEMR : Hid (∀ o ∈ S[i], o ∈ l) := fun o ho => (HMEM.out o).1 (flatS_mem hlt ho)
          have HOBI : Hid (∀ k (h2 : k < S[i].length) W v, S[i][k].ok → LgS W (Lt W.heap.size) v S[i][k].legs → ∀ W', Fr No W W' → Calls Tryz.prog 35 #[S[i][k].val v] W' (RetBE (obL S[i][k]) (obE S[i][k]) W')) := fun k h2 => HOB.out i k hlt h2
          have HNEXT : Hid (∀ W A' c' b', Own W 5 1 (.slice A' (b' : List UInt8).length c') b'.length (bs b') → Fr No w2 W → (∀ k, (Value.slice A' b'.length c').ownBlock = some k → w2.heap.size ≤ k) → b' = (b ++ nB (S[i].length : Int)) ++ ordsB S[i] → (∀ o ∈ S[i], rightO o = true) → b'.length ≤ (b.length + 10) + 1020 * S[i].length → E1Rel w2 S (.slice A' b'.length c') (.int .i64 ((i + 1 : Nat) : Int)) W) := fun W A' c' b' h1 h2 h3 h4 h5 h6 => by
            refine ⟨i + 1, A', c', b', hlt, rfl, ?_, rfl, h1, h2, h3, fun o ho => ?_, ?_⟩
            · rw [h4, rowsB_take hlt, HB.out]
              unfold stepB
              simp only [List.append_assoc]
            · rw [flatS_take hlt] at ho
              rcases List.mem_append.1 ho with ho | ho
              · exact HOK.out o ho
              · exact h5 o ho
            · rw [flatS_take hlt, List.length_append]
              have := HLEN.out
              omega
          clear hown hfr hnew hok hlen hb hrow
          generalize hs : S[i] = s at *
          go_wp2_with fail
          (with_reducible refine (HNM.out _ s.length (by omega)).mono ?_)
          rintro e w4 ⟨A5, c5, rfl, ho5, hf5, -⟩
          have HO4 := Lib.hid (HOWN.out.fr hf5 (fun _ _ h => h))
          have HF4 := Lib.hid (HFR.out.trans hf5)
          have HS5 := Lib.hid (srcB ho5)
          have hn10 := HLB.out s.length
          have HX : Hid (b.length + (nB (s.length : Int)).length ≤ maxLen ∧ (b.length + (nB (s.length : Int)).length) * 1 ≤ 140737488355328) := by
            refine ⟨?_, ?_⟩ <;> (try simp only [maxLen]) <;> omega
          clear ho5 hf5
          go_wp2_with (first | (at_builtin; refine wpList_app _ rfl (.tmp 29) (.tmp 35) 25 25 rfl elB HO4.out rfl HS5.out rfl HX.out.1 HX.out.2 ?_; intro v6 w6 ho6 hf6 hn6; obtain ⟨A6, c6, rfl, -, -⟩ := ho6.form; have HF6 : Hid (Fr No w2 w6) := fr_new HF4.out HNEW.out hf6; have HN6 : Hid (∀ k, (Value.slice A6 (b.length + (nB (s.length : Int)).length) c6).ownBlock = some k → w2.heap.size ≤ k) := own_new HF4.out HNEW.out hn6; have HO6 : Hid (Own w6 5 1 (.slice A6 (b.length + (nB (s.length : Int)).length) c6) (b.length + (nB (s.length : Int)).length) (bs (b ++ nB (s.length : Int)))) := (by rw [bs_append]; exact ho6); clear ho6 hf6 hn6) | fail)
          go_loopw [5, 7] (fun bv iv wr => E2Rel w2 (b ++ nB (s.length : Int)) (b.length + 10) s bv iv wr) (fun _ iv _ => s.length - (intOf iv).toNat)
          case atStart =>
            refine ⟨0, A6, c6, b ++ nB (s.length : Int), Nat.zero_le _, rfl, ?_, by rw [List.length_append], by rw [List.length_append]; exact HO6.out, HF6.out, by rw [List.length_append]; exact HN6.out, fun o ho => (by cases ho), by rw [List.length_append]; omega⟩
            rw [List.take_zero]
            unfold ordsB
            simp
          case round =>
            obtain ⟨k, A7, c7, b7, hk, rfl, hb7, rfl, hown7, hfr7, hnew7, hok7, hlen7⟩ := hrel
            have hk62 : (k : Int) ≤ 1000000 := by omega
            have z7 := HCE.out _ hfr7
            have hii : (i : Int) < (S.length : Int) := by omega
            by_cases hkl : k < s.length
            · obtain ⟨A8, c8, e8, hrow8⟩ := HROW.out _ hfr7
              injection e8 with e8 _ e9
              subst e8 e9
              obtain ⟨bd, v, rfl, _, hoko, _, hLg, q0, q1, q2, q3, q4, q5, q6, q7, q8, q9⟩ := hrow8.ods.at_ k hkl
              obtain ⟨B1, d1, rfl, hd1, hd1'⟩ := hLg.form
              have HC := Lib.hid (HOBI.out k hkl _ _ hoko hLg)
              have HO7 := Lib.hid hown7
              have HF7 := Lib.hid hfr7
              have HN7 := Lib.hid hnew7
              have HKL : Hid (k + 1 ≤ s.length) := hkl
              have HIN : Hid (s[k] ∈ l) := HMEMR.out _ (List.getElem_mem hkl)
              have HBOK := Lib.hid (HBO.out s[k])
              have HBEK := Lib.hid (HBE.out s[k])
              have HNX : Hid (∀ W A' c' b', Own W 5 1 (.slice A' (b' : List UInt8).length c') b'.length (bs b') → Fr No w2 W → (∀ k, (Value.slice A' b'.length c').ownBlock = some k → w2.heap.size ≤ k) → b' = b7 ++ tB (bytesO s[k]) → rightO s[k] = true → b'.length ≤ b7.length + 1010 → E2Rel w2 (b ++ nB (s.length : Int)) (b.length + 10) s (.slice A' b'.length c') (.int .i64 ((k + 1 : Nat) : Int)) W) := fun W A' c' b' h1 h2 h3 h4 h5 h6 => by
                refine ⟨k + 1, A', c', b', hkl, rfl, ?_, rfl, h1, h2, h3, fun o ho => ?_, by omega⟩
                · rw [h4, hb7, ordsB_take hkl]
                  exact List.append_assoc _ _ _
                · rw [List.take_succ_eq_append_getElem hkl, List.mem_append, List.mem_singleton] at ho
                  rcases ho with ho | ho
                  · exact hok7 o ho
                  · rw [ho]; exact h5
              have hbl7 : b7.length ≤ 600000 := by omega
              unfold RetNE Od.val Od.cs at HC
              simp only [List.toArray] at HC
              clear hown7 hfr7 hnew7 hok7 hlen7 hb7 hrow8 hLg hoko
              generalize s[k] = o at *
              obtain ⟨cl, sq, kd, acct, peer, sum, lg, per, hold, note⟩ := o
              simp only at *
              cases hro : rightO ⟨cl, sq, kd, acct, peer, sum, lg, per, hold, note⟩
              · rw [HBEK.out hro] at HC
                have HX : Hid (expB l = false) := HXF.out ⟨_, HIN.out, hro⟩
                go_wp2_with fail
                (with_reducible refine (HC.out _ (Fr.refl _ _)).mono ?_)
                rintro e w9 ⟨A9, c9, rfl, -, hf9⟩
                go_wp2
                go_ret2
                exact ⟨(HF2.out.trans HF7.out).trans hf9, fun h => (by rw [HX.out] at h; cases h), fun _ => rfl⟩
              · obtain ⟨hlb, hob, hoe⟩ := HBOK.out hro
                rw [hoe, hob] at HC
                have HRO : Hid (rightO ⟨cl, sq, kd, acct, peer, sum, lg, per, hold, note⟩ = true) := hro
                clear hro hob hoe
                generalize bytesO ⟨cl, sq, kd, acct, peer, sum, lg, per, hold, note⟩ = ob at *
                go_wp2_with fail
                (with_reducible refine (HC.out _ (Fr.refl _ _)).mono ?_)
                rintro e w9 ⟨A9, c9, rfl, ho9, hf9⟩
                have HF9 := Lib.hid hf9
                have hcv := run_str_of_bytes (P := Tryz.prog) (c := c9) 25 9 5 Tryz.underlying25 Tryz.underlying5 Tryz.underlying9 ho9.rd
                have HT9 := Lib.hid (HTX.out w9 ob hlb)
                clear ho9 hf9 q0 q1 q2 q3 q4 q5 q6 q7 q8 q9
                go_wp2_with fail
                (with_reducible refine HT9.out.mono ?_)
                rintro e w10 ⟨A10, c10, rfl, ho10, hf10⟩
                have HF10 := Lib.hid (HF9.out.trans hf10)
                have HO10 := Lib.hid (HO7.out.fr HF10.out (fun _ _ h => h))
                have HS10 := Lib.hid (srcB ho10)
                have htl := tB_len' ob
                have HX : Hid (b7.length + (tB ob).length ≤ maxLen ∧ (b7.length + (tB ob).length) * 1 ≤ 140737488355328) := by
                  refine ⟨?_, ?_⟩ <;> (try simp only [maxLen]) <;> omega
                clear ho10 hf10
                go_wp2_with (first | (at_builtin; refine wpList_app _ rfl (.tmp 60) (.tmp 63) 25 25 rfl elB HO10.out rfl HS10.out rfl HX.out.1 HX.out.2 ?_; intro v11 w11 ho11 hf11 hn11; obtain ⟨A11, c11, rfl, -, -⟩ := ho11.form; have HF11 : Hid (Fr No w2 w11) := fr_new (HF7.out.trans HF10.out) HN7.out hf11; have HN11 : Hid (∀ k, (Value.slice A11 (b7.length + (tB ob).length) c11).ownBlock = some k → w2.heap.size ≤ k) := own_new (HF7.out.trans HF10.out) HN7.out hn11; have HO11 : Hid (Own w11 5 1 (.slice A11 (b7.length + (tB ob).length) c11) (b7.length + (tB ob).length) (bs (b7 ++ tB ob))) := (by rw [bs_append]; exact ho11); clear ho11 hf11 hn11) | fail)
                have HRL := Lib.hid (HNX.out w11 A11 c11 (b7 ++ tB ob) (by rw [List.length_append]; exact HO11.out) HF11.out (by rw [List.length_append]; exact HN11.out) rfl HRO.out (by rw [List.length_append]; omega))
                rw [List.length_append] at HRL
                go_roundw
                case rel =>
                  obtain ⟨k', A', c', b', h1, h2, h3⟩ := HRL.out
                  exact ⟨k', A', c', b', h1, by rw [← h2]; go_num, h3⟩
                case measure => have := HKL.out; simp [intOf]; omega
            · obtain rfl : k = s.length := by omega
              rw [List.take_length] at hb7 hok7
              have HRL := Lib.hid (HNEXT.out _ A7 c7 b7 hown7 hfr7 hnew7 hb7 hok7 hlen7)
              clear hown7 hfr7 hnew7 hok7 hlen7 hb7
              go_wp2
              go_roundw
              case rel =>
                obtain ⟨k', A', c', b', h1, h2, h3⟩ := HRL.out
                exact ⟨k', A', c', b', h1, by rw [← h2]; go_num, h3⟩
              case measure => simp [intOf]; omega
        · obtain rfl : i = S.length := by omega
          rw [List.take_length] at hb hok
          have HX : Hid (expB l = true) := HXT.out fun o ho => hok o ((HMEM.out o).2 ho)
          have HRET : Hid (ExpRet w l (.returned (.tuple #[.slice A4 b.length c4, .int .i64 0])) wr) := by
            refine ⟨HF2.out.trans hfr, fun _ => ⟨A4, c4, S, HSO.out, ?_, ?_⟩, fun h => (by rw [HX.out] at h; cases h)⟩
            · rw [hb]; rfl
            · rw [hb] at hown
              exact hown
          clear hown hfr hnew hok hlen hb
          go_wp2
          go_ret2
          exact HRET.out
  · have HX : Hid (expB l = false) := by show _ = _; unfold expB; rw [decide_eq_false h200]; simp
    have hi200 : (200 : Int) < (l.length : Int) := by omega
    have hd200 : decide ((200 : Int) < (l.length : Int)) = true := decide_eq_true hi200
    have hd2 : decide (200 < l.length) = true := decide_eq_true (by omega)
    clear hl
    generalize hn : l.length = n at *
    go_enter Tryz.func13, Tryz.ntmps13
    go_wp2
    go_ret2
    exact ⟨Fr.refl _ _, fun h => (by rw [HX.out] at h; cases h), fun _ => rfl⟩
end Go.Proofs.YtnphncemghfkbaaGreat
