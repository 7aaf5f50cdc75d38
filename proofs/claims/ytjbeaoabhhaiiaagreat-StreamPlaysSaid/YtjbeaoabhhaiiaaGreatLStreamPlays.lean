/- StreamPlays holds: what a desk answers, and each account's events, are what the document says. No condition. -/
import Derived.Test.YtjbeaoabhhaiiaaGreatM6
import Derived.Deep.CutBlock
import Derived.Deep.DeepCutAuto
import Derived.Deep.RegionLaw
import Derived.Test.YtjbeaoabhhaiiaaGreatRows
import Derived.Test.YtjbeaoabhhaiiaaGreatOpen
namespace Go.Proofs.YtjbeaoabhhaiiaaGreat
open Go.RowKit Go.My Go.Maps
set_option linter.unusedSimpArgs false
set_option linter.unusedVariables false
attribute [local go_sem ↓] Go.wp_at_zero Go.wp_at_succ

theorem pn_start {w w1 w2 : World} {d : Dp} (hf1 : Fr No w w1) (hd : DkS w2 d noF 0 bk0 noEv 0 noRd) (hf : Fr No w1 w2) (hn : ∀ i, d.all noF i → w1.heap.size ≤ i) :
    Pn w d w2.heap.size 0 (w2.alloc (.cells #[.slice none 0 0, .slice none 0 0] 30)) := by
  have hF : Fr No w2 (w2.alloc (.cells #[.slice none 0 0, .slice none 0 0] 30)) := (Fr.refl _ _).alloc _
  have hs1 := hf1.size
  have hs2 := hf.size
  refine ⟨noF, .slice none 0 0, .slice none 0 0, [], [], (hd.no hF).same (Nat.le_refl _) (fun _ => rfl), ⟨Blk.new w2 _ _, OwnO.nil _ _, Own.nil _ _ _, by omega, fun k hk => by simp [Value.ownBlock] at hk, fun k hk => by simp [Value.ownBlock] at hk, fun r hr => by cases hr⟩, (hf1.trans hf).trans hF, fun i hi => by have := hn i hi; omega, Nat.le_refl _, Nat.le_refl _, fun o ho => by cases ho⟩

set_option maxRecDepth 100000 in
set_option maxHeartbeats 40000000 in
theorem streamPlays_walk (A : Option Addr) (c : Nat) (S : List Op12) (w : World) (ra : OpsS w w (Lt w.heap.size) A S) (ca : S.length ≤ c) (ma : c ≤ maxLen) :
    Calls Tryz.prog 3 #[.slice A S.length c] w fun e w' => e = .returned (.bool true) ∧ Below w.heap.size w w' := by
  have HLV := Lib.hid (lives12 w)
  have HRA := Lib.hid ra
  have hSm : S.length ≤ 9223372036854775807 := by unfold maxLen at ma; omega
  clear ra ma
  go_enter Tryz.func3, Tryz.ntmps3
  go_upto_block 0 with (first
    | (go_at_call 4; (with_reducible refine HLV.out.mono ?_); rintro _ w1 ⟨rfl, hf1⟩; have HF1 := Lib.hid hf1; clear hf1)
    | (go_at_call 5; (with_reducible refine (dnew_any w1).mono ?_); rintro _ w2 ⟨d, rfl, hd2, hf2, hn2⟩; have HP0 := Lib.hid (pn_start HF1.out hd2 hf2 hn2); clear hd2 hf2 hn2))
  generalize w2.alloc (.cells #[.slice none 0 0, .slice none 0 0] 30) = w3 at *
  generalize w2.heap.size = p at *
  go_cut [5] (fun a5 wx => ∃ i : Nat, a5 = .int .i64 (i : Int) ∧ i ≤ 50 ∧ Pn w d p i wx)
  case first =>
    go_wp2
    go_loopw [5] (fun iv wr => ∃ i : Nat, iv = .int .i64 (i : Int) ∧ i ≤ 50 ∧ Pn w d p i wr) (fun iv _ => 50 - (intOf iv).toNat)
    case atStart => exact ⟨0, rfl, Nat.zero_le _, HP0.out⟩
    case round =>
      obtain ⟨i, rfl, hi, hpn⟩ := hrel
      have HPN := Lib.hid hpn
      clear hpn
      by_cases hiS : i < S.length
      · have hiSI : (i : Int) < (S.length : Int) := by omega
        by_cases hi50 : i < 50
        · have hi50I : (i : Int) < 50 := by omega
          have hat := HRA.out.at_ i hiS
          obtain ⟨P, hP⟩ : ∃ P, S[i] = P := ⟨_, rfl⟩
          rw [hP] at hat
          obtain ⟨ad, v, rfl, hF, hO, hok, p0, p1, p2, p3, p4, p5, p6, p7, p8, p9, p10, p11, p12, p13⟩ := hat
          obtain ⟨B, dd, rfl, hd1, hd2⟩ := hO.2.2.form
          obtain ⟨f, vL, vR, l, R, hmd⟩ := HPN.out
          have HMD := Lib.hid hmd
          have HCL : Hid (∀ W, Fr No w W → W.cell? (ad.add (i * 14)) = some (.int .i64 P.kind)) := Lib.hid (fun W hW => hW.cell_some p0 (fun h => h))
          have hfw := hmd.fr
          have q0 := hfw.cell_some p0 (fun h => h)
          have q1 := hfw.cell_some p1 (fun h => h)
          have q2 := hfw.cell_some p2 (fun h => h)
          have q3 := hfw.cell_some p3 (fun h => h)
          have q4 := hfw.cell_some p4 (fun h => h)
          have q5 := hfw.cell_some p5 (fun h => h)
          have q6 := hfw.cell_some p6 (fun h => h)
          have q7 := hfw.cell_some p7 (fun h => h)
          have q8 := hfw.cell_some p8 (fun h => h)
          have q9 := hfw.cell_some p9 (fun h => h)
          have q10 := hfw.cell_some p10 (fun h => h)
          have q11 := hfw.cell_some p11 (fun h => h)
          have q12 := hfw.cell_some p12 (fun h => h)
          have q13 := hfw.cell_some p13 (fun h => h)
          clear p0 p1 p2 p3 p4 p5 p6 p7 p8 p9 p10 p11 p12 p13 hmd hfw hF hP
          obtain ⟨kd, n, o, nm, ac⟩ := P
          simp only at *
          generalize hLL : o.legs.length = LL at *
          have hmn : (min (LL : Int) 8).toNat = min LL 8 := by omega
          have hmx : 0 ≤ min (LL : Int) 8 ∧ min (LL : Int) 8 ≤ (dd : Int) := ⟨by omega, by omega⟩
          have HMN := Lib.hid hmn
          obtain ⟨k6, hk6, hk6l⟩ := umod kd 6 (by omega) (by omega)
          have e6 : (IntKind.u64.wrap kd).tmod ((6 : Nat) : Int) = (IntKind.u64.wrap kd).tmod 6 := rfl
          rw [e6] at hk6
          clear e6
          go_upto_block 2 with (fail)
          rw [hk6]
          rw [← hLL] at hO hd1 hmn hmx HMN ⊢
          have HQ5 : Hid (Bq wr.heap.size #[.int .i64 kd, .int .i64 n, .int .i64 o.cl, .int .i64 o.sq, .int .i64 o.kd, .string o.acct, .string o.peer, .int .i64 o.sum, .slice B (min o.legs.length 8) dd, .int .i64 o.per, .int .i64 o.hold, .string o.note, .string nm, .string ac] (wr.alloc (.cells #[.int .i64 kd, .int .i64 n, .int .i64 o.cl, .int .i64 o.sq, .int .i64 o.kd, .string o.acct, .string o.peer, .int .i64 o.sum, .slice B (min o.legs.length 8) dd, .int .i64 o.per, .int .i64 o.hold, .string o.note, .string nm, .string ac] 37))) := Lib.hid (Blk.new wr _ _)
          have HM5 : Hid (Md w d p i f vL vR l R l R.length (gOf R) (wr.alloc (.cells #[.int .i64 kd, .int .i64 n, .int .i64 o.cl, .int .i64 o.sq, .int .i64 o.kd, .string o.acct, .string o.peer, .int .i64 o.sum, .slice B (min o.legs.length 8) dd, .int .i64 o.per, .int .i64 o.hold, .string o.note, .string nm, .string ac] 37))) := Lib.hid (HMD.out.no ((Fr.refl _ _).alloc _))
          generalize wr.alloc (.cells #[.int .i64 kd, .int .i64 n, .int .i64 o.cl, .int .i64 o.sq, .int .i64 o.kd, .string o.acct, .string o.peer, .int .i64 o.sum, .slice B (min o.legs.length 8) dd, .int .i64 o.per, .int .i64 o.hold, .string o.note, .string nm, .string ac] 37) = w5 at *
          generalize wr.heap.size = q at *
          obtain ⟨CS, hCS⟩ : ∃ CS : Array Value, CS = #[.int .i64 kd, .int .i64 n, .int .i64 o.cl, .int .i64 o.sq, .int .i64 o.kd, .string o.acct, .string o.peer, .int .i64 o.sum, .slice B (min o.legs.length 8) dd, .int .i64 o.per, .int .i64 o.hold, .string o.note, .string nm, .string ac] := ⟨_, rfl⟩
          have HCE : Hid (∀ W, Bq q CS W → W.cell? ⟨q, 1, none⟩ = some (.int .i64 n) ∧ W.cell? ⟨q, 12, none⟩ = some (.string nm) ∧ W.cell? ⟨q, 13, none⟩ = some (.string ac)) := Lib.hid (fun W hW => by
            subst hCS
            have h1 := Blk.cell hW 1
            have h12 := Blk.cell hW 12
            have h13 := Blk.cell hW 13
            exact ⟨by simpa using h1, by simpa using h12, by simpa using h13⟩)
          have HCO : Hid (∀ W, Bq q CS W → W.cell? ⟨q, 2, none⟩ = some (.int .i64 o.cl) ∧ W.cell? ⟨q, 3, none⟩ = some (.int .i64 o.sq) ∧ W.cell? ⟨q, 4, none⟩ = some (.int .i64 o.kd) ∧ W.cell? ⟨q, 5, none⟩ = some (.string o.acct) ∧ W.cell? ⟨q, 6, none⟩ = some (.string o.peer) ∧ W.cell? ⟨q, 7, none⟩ = some (.int .i64 o.sum) ∧ W.cell? ⟨q, 8, none⟩ = some (.slice B (min o.legs.length 8) dd) ∧ W.cell? ⟨q, 9, none⟩ = some (.int .i64 o.per) ∧ W.cell? ⟨q, 10, none⟩ = some (.int .i64 o.hold) ∧ W.cell? ⟨q, 11, none⟩ = some (.string o.note)) := Lib.hid (fun W hW => by
            subst hCS
            have h2 := Blk.cell hW 2
            have h3 := Blk.cell hW 3
            have h4 := Blk.cell hW 4
            have h5 := Blk.cell hW 5
            have h6 := Blk.cell hW 6
            have h7 := Blk.cell hW 7
            have h8 := Blk.cell hW 8
            have h9 := Blk.cell hW 9
            have h10 := Blk.cell hW 10
            have h11 := Blk.cell hW 11
            exact ⟨by simpa using h2, by simpa using h3, by simpa using h4, by simpa using h5, by simpa using h6, by simpa using h7, by simpa using h8, by simpa using h9, by simpa using h10, by simpa using h11⟩)
          rw [← hCS] at HQ5
          obtain ⟨hcl, hin, hnm9, hac9⟩ := hok
          have HIN := Lib.hid hin
          have HNM := Lib.hid hnm9
          have HAC := Lib.hid hac9
          have HOI : Hid (OdI w o.few8 (.slice B (min o.legs.length 8) dd)) := Lib.hid ⟨hO.1, fun g h => hO.2.1 g (List.mem_of_mem_take h), hO.2.2.take 8⟩
          clear q0 q1 q2 q3 q4 q5 q6 q7 q8 q9 q10 q11 q12 q13 hO hd1 hd2 hmn hmx hcl hin hnm9 hac9 hLL hCS hk6 HCL
          go_cut [5, 7] (fun a5 a7 wx => a5 = .int .i64 (i : Int) ∧ a7 = .bool true ∧ Pn w d p (i + 1) wx)
          case first =>
            have hk6' : k6 = 0 ∨ k6 = 1 ∨ k6 = 2 ∨ k6 = 3 ∨ k6 = 4 ∨ k6 = 5 := by omega
            rcases hk6' with rfl | rfl | rfl | rfl | rfl | rfl
            · obtain ⟨AL, cL, rfl, -, -⟩ := HM5.out.d2.rowL.form
              obtain ⟨o2, o3, o4, o5, o6, o7, o8, o9, o10, o11⟩ := HCO.out w5 HQ5.out
              have HL8 : Hid (o.few8.legs.length ≤ 8) := Lib.hid (by show (o.legs.take 8).length ≤ 8; rw [List.length_take]; omega)
              have HDO : Hid (Calls Tryz.prog 6 #[.pointer (some ⟨d.p, 0, none⟩), .agg #[.int .i64 o.cl, .int .i64 o.sq, .int .i64 o.kd, .string o.acct, .string o.peer, .int .i64 o.sum, .slice B (min o.legs.length 8) dd, .int .i64 o.per, .int .i64 o.hold, .string o.note]] w5 fun e u' => (∃ x, e = .returned x) ∧ ∃ f', Md w d p i f' (.slice AL l.length cL) vR l R (l ++ [o.few8]) R.length (gOf R) u' ∧ Bq q CS u') := Lib.hid (st_do HM5.out (by omega) HQ5.out o.few8 (.slice B (min o.legs.length 8) dd) HOI.out.1 HOI.out.2.2 HL8.out)
              go_upto_region 13 with (go_at_call 6; (with_reducible refine HDO.out.mono ?_); rintro _ w6 ⟨⟨x, rfl⟩, f6, hm6, hq6⟩; have HM6 := Lib.hid hm6; have HQ6 := Lib.hid hq6; clear hm6 hq6)
              clear o2 o3 o4 o5 o6 o7 o8 o9 o10 o11
              obtain ⟨o2, o3, o4, o5, o6, o7, o8, o9, o10, o11⟩ := HCO.out w6 HQ6.out
              have hb := HM6.out.d2.blk
              have c0 := hb.cell 0
              have z0 := hb.frozen 0
              simp only [List.getElem?_toArray, List.getElem?_cons_zero, List.getElem?_cons_succ] at c0
              obtain ⟨cells, hown, hE⟩ := HM6.out.d2.rowL
              have HOWN := Lib.hid hown
              have HE := Lib.hid hE
              have HB6 := Lib.hid hb
              have HB6D : Hid (Blk (w6.alloc (.cells #[.int .i64 o.cl, .int .i64 o.sq, .int .i64 o.kd, .string o.acct, .string o.peer, .int .i64 o.sum, .slice B (min o.legs.length 8) dd, .int .i64 o.per, .int .i64 o.hold, .string o.note] 35)).drew p 30 #[.slice AL l.length cL, vR]) := Lib.hid (HB6.out.alloc _)
              have c0a := (HB6.out.alloc (.cells #[.int .i64 o.cl, .int .i64 o.sq, .int .i64 o.kd, .string o.acct, .string o.peer, .int .i64 o.sum, .slice B (min o.legs.length 8) dd, .int .i64 o.per, .int .i64 o.hold, .string o.note] 35)).cell 0
              simp only [List.getElem?_toArray, List.getElem?_cons_zero, List.getElem?_cons_succ] at c0a
              have HFAR : Hid (¬ AtO (Value.slice AL l.length cL).ownBlock p) := Lib.hid (fun e => hown.ne_ hb (by decide) e)
              have hX : Hid (l.length + 1 ≤ maxLen ∧ (l.length + 1) * 120 ≤ 140737488355328) := by
                have := HM6.out.ll
                refine ⟨?_, ?_⟩ <;> (try simp only [maxLen]) <;> omega
              clear hb hown hE
              go_wp2
              go_region_law (refine step_app _ rfl (.tmp 64) (.tmp 67) 27 27 rfl elO (HOWN.out.alloc _) rfl (Src.of_new (cs := #[.int .i64 o.cl, .int .i64 o.sq, .int .i64 o.kd, .string o.acct, .string o.peer, .int .i64 o.sum, .slice B (min o.legs.length 8) dd, .int .i64 o.per, .int .i64 o.hold, .string o.note]) (t := 35) w6.heap.size (heap_alloc_new w6 _) Tryz.underlying27 rfl (by simp [Value.oneCell'])) rfl hX.out.1 hX.out.2 ?_; intro v7 w7 hown7 hf7 hn7; obtain ⟨A7, c7, rfl, -, -⟩ := hown7.form; have hb7 := HB6D.out.fr hf7 HFAR.out; have y7 := hb7.cell 0; have z7 := hb7.frozen 0; simp only [List.getElem?_toArray, List.getElem?_cons_zero, List.getElem?_cons_succ] at y7; have HO7 := Lib.hid hown7; have HF7 := Lib.hid hf7; have HN7 := Lib.hid hn7; clear hown7 hf7 hn7 hb7)
              all_goals
                (try simp only [List.getElem_toArray, List.getElem_cons_zero, List.getElem_cons_succ])
                go_wp2
                go_meet
                case rel =>
                  refine ⟨rfl, rfl, (rf_do HM6.out HQ6.out HOI.out HL8.out HE.out HO7.out ?_ ?_).1⟩
                  · exact (((Fr.refl _ w6).alloc _).drew).trans HF7.out
                  · refine HN7.out.imp id fun e => ⟨_, e, ?_⟩
                    have h9 : (w6.alloc (.cells #[.int .i64 o.cl, .int .i64 o.sq, .int .i64 o.kd, .string o.acct, .string o.peer, .int .i64 o.sum, .slice B (min o.legs.length 8) dd, .int .i64 o.per, .int .i64 o.hold, .string o.note] 35)).heap.size = w6.heap.size + 1 := World.size_alloc ..
                    first
                      | omega
                      | (show w6.heap.size ≤ (w6.alloc _).heap.size; rw [h9]; omega)
            · as_aux_lemma =>
                obtain ⟨x, hx⟩ : ∃ x, x = readE (gOf R) R.length nm.data.toList ac.data.toList := ⟨_, rfl⟩
                have HRD : Hid (∀ W, Fr No w5 W → Calls Tryz.prog 7 #[.pointer (some ⟨d.p, 0, none⟩), .string nm, .string ac] W fun e u' => e = .returned (.int .i64 x) ∧ Md w d p i f vL vR l R l (readK (gOf R) R.length nm.data.toList ac) (readG (gOf R) R.length nm.data.toList ac) u' ∧ Bq q CS u') := Lib.hid (fun W hW => by rw [hx]; exact st_read (HM5.out.no hW) (by omega) (HQ5.out.no hW) nm ac HNM.out HAC.out)
                have HRR : Hid (∀ u, Md w d p i f vL vR l R l (readK (gOf R) R.length nm.data.toList ac) (readG (gOf R) R.length nm.data.toList ac) u → Bq q CS u → Calls Tryz.prog 8 #[.pointer (some ⟨p, 0, none⟩), .string nm, .string ac] u fun e u' => e = .returned (.int .i64 x) ∧ Pn w d p (i + 1) u' ∧ Bq q CS u') := Lib.hid (fun u hm hq => by rw [hx]; exact rf_read hm (by omega) hq HNM.out HAC.out)
                have hxx : (x == x) = true := by simp
                have g0 : Fr No w5 w5.drew := (Fr.refl _ _).drew
                have hq0 : Bq q CS w5.drew := HQ5.out
                have HX : Hid (∀ W, Bq q CS W → Bq q CS W ∧ W.cell? ⟨q, 12, none⟩ = some (.string nm) ∧ W.cell? ⟨q, 13, none⟩ = some (.string ac)) := Lib.hid (fun W hW => ⟨hW, (HCE.out W hW).2⟩)
                clear hx
                go_upto_region 15 with (fail)
                go_region_held3 (fun W => Bq q CS W ∧ W.cell? ⟨q, 12, none⟩ = some (.string nm) ∧ W.cell? ⟨q, 13, none⟩ = some (.string ac))
                  (exact HX.out _ (by assumption))
                  (first
                  | (go_at_call 7; (with_reducible refine (HRD.out _ g0).mono ?_); rintro e u1 ⟨rfl, hm1, hq1⟩)
                  | (go_at_call 8; (with_reducible refine (HRR.out _ hm1 hq1).mono ?_); rintro e u2 ⟨rfl, hp2, hq2⟩))
                all_goals
                  have HP2 := Lib.hid hp2
                  clear hm1 hq1 hp2 hq2 hq0 g0
                  go_wp2
                  go_meet
                  case rel => exact ⟨rfl, by first | rfl | simp, HP2.out⟩
            · as_aux_lemma =>
                obtain ⟨X, hX⟩ : ∃ X, X = pollX (evsL bk0 l) (gOf R) nm.data.toList n := ⟨_, rfl⟩
                have HPO : Hid (∀ W, Fr No w5 W → Calls Tryz.prog 9 #[.pointer (some ⟨d.p, 0, none⟩), .string nm, .int .i64 n] W fun e u' => ∃ A c, e = .returned (.tuple #[.slice A X.1.length c, .int .i64 X.2]) ∧ Rd u' (fun k => W.heap.size ≤ k) 5 A X.1.length (evs X.1) ∧ Fr No W u') := Lib.hid (fun W hW => by rw [hX]; exact st_poll (HM5.out.no hW) (by omega) nm n HNM.out HIN.out)
                have HPR : Hid (∀ W, Fr No w5 W → Calls Tryz.prog 10 #[.pointer (some ⟨p, 0, none⟩), .string nm, .int .i64 n] W fun e u' => ∃ A c, e = .returned (.tuple #[.slice A X.1.length c, .int .i64 X.2]) ∧ Rd u' (fun k => W.heap.size ≤ k) 5 A X.1.length (evs X.1) ∧ Fr No W u') := Lib.hid (fun W hW => by rw [hX]; exact rf_poll (HM5.out.no hW) (by omega) nm n HIN.out)
                have HXL : Hid (X.1.length ≤ 1000) := Lib.hid (by rw [hX]; have := pollX_len l (gOf R) nm.data.toList n; have := HM5.out.ll; omega)
                obtain ⟨X1, x2⟩ := X
                simp only at HPO HPR HXL
                have hxx : (x2 == x2) = true := by simp
                obtain ⟨y1, y12, y13⟩ := HCE.out w5 HQ5.out
                have hXL := HXL.out
                clear hX
                go_wp2_with (first
                  | (go_at_call 9; (with_reducible refine (HPO.out _ (Fr.refl _ _)).mono ?_); rintro _ u1 ⟨A1, c1, rfl, r1, f1⟩; have HR1 := Lib.hid r1; have HF1' := Lib.hid f1; obtain ⟨x1, x12, x13⟩ := HCE.out u1 (HQ5.out.no f1); clear r1 f1 y1 y12 y13)
                  | (go_at_call 10; (with_reducible refine (HPR.out _ HF1'.out).mono ?_); rintro _ u2 ⟨A2, c2, rfl, r2, f2⟩; have HR2 := Lib.hid r2; have HR1' := Lib.hid (HR1.out.fr (by decide : 0 < 5) f2 (fun _ _ _ h => h)); have HF2' := Lib.hid (HF1'.out.trans f2); clear r2 f2)
                  | (go_at_call 12; (with_reducible refine (as12_any _ A1 c1 X1 u2 HR1'.out (Nat.le_trans HXL.out (by decide))).mono ?_); rintro _ u3 ⟨v3, rfl, o3, f3, n3⟩; obtain ⟨A3, c3, rfl, -, -⟩ := o3.form; have HR3 := Lib.hid o3.rd; have HR2' := Lib.hid (HR2.out.fr (by decide : 0 < 5) (fr_at_none f3) (fun _ _ _ h => h)); have HF3' := Lib.hid (HF2'.out.trans (fr_at_none f3)); clear o3 f3 n3)
                  | (go_at_call 11; (with_reducible refine (same12_eq _ _ A3 A2 c3 c2 X1 u3 HR3.out HR2'.out (Nat.le_trans HXL.out (by decide))).mono ?_); rintro _ u4 ⟨rfl, f4⟩; have HF4' := Lib.hid (HF3'.out.trans f4); clear f4))
                go_meet
                case rel => exact ⟨rfl, by first | rfl | simp, f, vL, vR, l, R, (HM5.out.no HF4'.out).more (Nat.le_succ _)⟩
            · as_aux_lemma =>
                obtain ⟨x, hx⟩ : ∃ x, x = mvE (evsL bk0 l) (gOf R) nm.data.toList n false := ⟨_, rfl⟩
                have HRD : Hid (∀ W, Fr No w5 W → Calls Tryz.prog 13 #[.pointer (some ⟨d.p, 0, none⟩), .string nm, .int .i64 n] W fun e u' => e = .returned (.int .i64 x) ∧ Md w d p i f vL vR l R l R.length (mvG (evsL bk0 l) (gOf R) nm.data.toList n false) u' ∧ Bq q CS u') := Lib.hid (fun W hW => by rw [hx]; exact st_take (HM5.out.no hW) (by omega) (HQ5.out.no hW) nm n HNM.out HIN.out)
                have HTK := Lib.hid HM5.out.tk
                have HRR : Hid (∀ u, Md w d p i f vL vR l R l R.length (mvG (evsL bk0 l) (gOf R) nm.data.toList n false) u → Bq q CS u → Calls Tryz.prog 14 #[.pointer (some ⟨p, 0, none⟩), .string nm, .int .i64 n, .bool false] u fun e u' => e = .returned (.int .i64 x) ∧ Pn w d p (i + 1) u' ∧ Bq q CS u') := Lib.hid (fun u hm hq => by rw [hx]; exact rf_move hm HTK.out (by omega) hq HIN.out)
                have hxx : (x == x) = true := by simp
                have g0 : Fr No w5 w5.drew := (Fr.refl _ _).drew
                have hq0 : Bq q CS w5.drew := HQ5.out
                have HX : Hid (∀ W, Bq q CS W → Bq q CS W ∧ W.cell? ⟨q, 12, none⟩ = some (.string nm) ∧ W.cell? ⟨q, 1, none⟩ = some (.int .i64 n)) := Lib.hid (fun W hW => ⟨hW, (HCE.out W hW).2.1, (HCE.out W hW).1⟩)
                clear hx
                go_upto_region 21 with (fail)
                go_region_held3 (fun W => Bq q CS W ∧ W.cell? ⟨q, 12, none⟩ = some (.string nm) ∧ W.cell? ⟨q, 1, none⟩ = some (.int .i64 n))
                  (exact HX.out _ (by assumption))
                  (first
                  | (go_at_call 13; (with_reducible refine (HRD.out _ g0).mono ?_); rintro e u1 ⟨rfl, hm1, hq1⟩)
                  | (go_at_call 14; (with_reducible refine (HRR.out _ hm1 hq1).mono ?_); rintro e u2 ⟨rfl, hp2, hq2⟩))
                all_goals
                  have HP2 := Lib.hid hp2
                  clear hm1 hq1 hp2 hq2 hq0 g0
                  go_wp2
                  go_meet
                  case rel => exact ⟨rfl, by first | rfl | simp, HP2.out⟩
            · as_aux_lemma =>
                obtain ⟨x, hx⟩ : ∃ x, x = mvE (evsL bk0 l) (gOf R) nm.data.toList n true := ⟨_, rfl⟩
                have HRD : Hid (∀ W, Fr No w5 W → Calls Tryz.prog 15 #[.pointer (some ⟨d.p, 0, none⟩), .string nm, .int .i64 n] W fun e u' => e = .returned (.int .i64 x) ∧ Md w d p i f vL vR l R l R.length (mvG (evsL bk0 l) (gOf R) nm.data.toList n true) u' ∧ Bq q CS u') := Lib.hid (fun W hW => by rw [hx]; exact st_back (HM5.out.no hW) (by omega) (HQ5.out.no hW) nm n HNM.out HIN.out)
                have HTK := Lib.hid HM5.out.tk
                have HRR : Hid (∀ u, Md w d p i f vL vR l R l R.length (mvG (evsL bk0 l) (gOf R) nm.data.toList n true) u → Bq q CS u → Calls Tryz.prog 14 #[.pointer (some ⟨p, 0, none⟩), .string nm, .int .i64 n, .bool true] u fun e u' => e = .returned (.int .i64 x) ∧ Pn w d p (i + 1) u' ∧ Bq q CS u') := Lib.hid (fun u hm hq => by rw [hx]; exact rf_move hm HTK.out (by omega) hq HIN.out)
                have hxx : (x == x) = true := by simp
                have g0 : Fr No w5 w5.drew := (Fr.refl _ _).drew
                have hq0 : Bq q CS w5.drew := HQ5.out
                have HX : Hid (∀ W, Bq q CS W → Bq q CS W ∧ W.cell? ⟨q, 12, none⟩ = some (.string nm) ∧ W.cell? ⟨q, 1, none⟩ = some (.int .i64 n)) := Lib.hid (fun W hW => ⟨hW, (HCE.out W hW).2.1, (HCE.out W hW).1⟩)
                clear hx
                go_upto_region 23 with (fail)
                go_region_held3 (fun W => Bq q CS W ∧ W.cell? ⟨q, 12, none⟩ = some (.string nm) ∧ W.cell? ⟨q, 1, none⟩ = some (.int .i64 n))
                  (exact HX.out _ (by assumption))
                  (first
                  | (go_at_call 15; (with_reducible refine (HRD.out _ g0).mono ?_); rintro e u1 ⟨rfl, hm1, hq1⟩)
                  | (go_at_call 14; (with_reducible refine (HRR.out _ hm1 hq1).mono ?_); rintro e u2 ⟨rfl, hp2, hq2⟩))
                all_goals
                  have HP2 := Lib.hid hp2
                  clear hm1 hq1 hp2 hq2 hq0 g0
                  go_wp2
                  go_meet
                  case rel => exact ⟨rfl, by first | rfl | simp, HP2.out⟩
            · as_aux_lemma =>
                obtain ⟨y1, y12, y13⟩ := HCE.out w5 HQ5.out
                have HA1 := Lib.hid (st_at HM5.out nm HNM.out)
                have HA2 : Hid (∀ W, Fr No w5 W → Calls Tryz.prog 17 #[.pointer (some ⟨p, 0, none⟩), .string nm] W fun e w' => ∃ z, e = .returned (.int .i64 z) ∧ AtR2 R nm.data.toList z ∧ W = w') := Lib.hid (fun W hW => refat2_any nm W (HM5.out.d2.no hW) (by have := HM5.out.rl; omega))
                go_upto_region 27 with (first
                  | (go_at_call 16; (with_reducible refine HA1.out.mono ?_); rintro _ u1 ⟨⟨t, x, rfl, hgt⟩, f1⟩; have HGT := Lib.hid hgt; have HF1' := Lib.hid f1; obtain ⟨x1, x12, x13⟩ := HCE.out u1 (HQ5.out.no f1); clear hgt f1 y1 y12 y13)
                  | (go_at_call 17; (with_reducible refine (HA2.out _ HF1'.out).mono ?_); rintro _ u2 ⟨z, rfl, hz, hu⟩; obtain rfl : u1 = u2 := hu; have HZ := Lib.hid hz; clear hz))
                have HPE : Hid (Pn w d p (i + 1) u1) := Lib.hid ⟨f, vL, vR, l, R, (HM5.out.no HF1'.out).more (Nat.le_succ _)⟩
                rcases HGT.out with ⟨hg, rfl, rfl⟩ | ⟨a, hg, rfl⟩
                · rcases HZ.out with ⟨-, rfl⟩ | ⟨k, hk, -, -, hg2, -⟩
                  · go_wp2
                    go_meet
                    case rel => exact ⟨rfl, by first | rfl | simp, HPE.out⟩
                  · rw [hg] at hg2; cases hg2
                · rcases HZ.out with ⟨hg2, -⟩ | ⟨k, hk, rfl, -, hg2, -⟩
                  · rw [hg] at hg2; cases hg2
                  · rw [hg] at hg2
                    injection hg2 with hg2
                    obtain ⟨e1, e2⟩ := Prod.mk.inj hg2
                    have HD1 := Lib.hid (HM5.out.d2.no HF1'.out)
                    obtain ⟨AR, cR, hvR, -, -⟩ := HD1.out.rowR.form
                    have c1 := HD1.out.blk.cell 1
                    simp only [List.getElem?_toArray, List.getElem?_cons_zero, List.getElem?_cons_succ] at c1
                    have hrd : Rd u1 (fun k => vR.ownBlock = some k) 3 AR R.length (rdsC R) := by have h1 := HD1.out.rowR; rw [hvR] at h1 ⊢; exact h1.rd
                    obtain ⟨ad2, rfl, _, p0, p1, p2⟩ := rd2_at hrd k hk
                    rw [← e2] at p2
                    rw [hvR] at c1
                    have hkI : (k : Int) < (R.length : Int) := by omega
                    have hk0 : ¬ (k : Int) < 0 := by omega
                    have hkg : (k : Int) ≥ 0 := by omega
                    have hkd : decide ((k : Int) < 0) = false := decide_eq_false hk0
                    have hkd2 : decide ((0 : Int) ≤ (k : Int)) = true := decide_eq_true hkg
                    have htt : ((t : Int) == (t : Int)) = true := by simp
                    clear e1 e2 hg hg2 hrd p0 p1 hvR
                    go_wp2
                    go_meet
                    case rel => exact ⟨rfl, by first | rfl | simp, HPE.out⟩
          case rest =>
            obtain ⟨rfl, rfl, hp⟩ := hcut
            generalize wc = w9 at *
            have HP9 := Lib.hid hp
            clear hp
            go_wp2
            go_roundw
            case rel => exact ⟨i + 1, by first | go_num | simp | rfl, hi50, HP9.out⟩
            case measure => simp [intOf]; omega
        · have hi50I : ¬ (i : Int) < 50 := by omega
          go_wp2
          go_meet
          case rel => exact ⟨i, rfl, hi, HPN.out⟩
      · have hiSI : ¬ (i : Int) < (S.length : Int) := by omega
        go_wp2
        go_meet
        case rel => exact ⟨i, rfl, hi, HPN.out⟩
  case rest =>
    obtain ⟨i, rfl, hi, hp⟩ := hcut
    obtain ⟨f, vL, vR, l, R, hmd⟩ := hp
    generalize wc = wr at *
    obtain ⟨AL, cL, rfl, -, -⟩ := hmd.d2.rowL.form
    have HMD := Lib.hid hmd
    have hln : l.length ≤ 50 := Nat.le_trans hmd.ll hi
    clear hmd
    go_upto_block 3 with (fail)
    have HG0 : Hid (Blk (wr.alloc (.cells #[.string ⟨#[97]⟩, .string ⟨#[98]⟩, .string ⟨#[99]⟩, .string ⟨#[98, 97, 110, 107]⟩, .string ⟨#[116, 105, 108, 108]⟩, .string ⟨#[122, 122]⟩] 9)) wr.heap.size 9 #[.string ⟨#[97]⟩, .string ⟨#[98]⟩, .string ⟨#[99]⟩, .string ⟨#[98, 97, 110, 107]⟩, .string ⟨#[116, 105, 108, 108]⟩, .string ⟨#[122, 122]⟩]) := Lib.hid (Blk.new wr _ _)
    have HM6 : Hid (Md w d p i f (.slice AL l.length cL) vR l R l R.length (gOf R) (wr.alloc (.cells #[.string ⟨#[97]⟩, .string ⟨#[98]⟩, .string ⟨#[99]⟩, .string ⟨#[98, 97, 110, 107]⟩, .string ⟨#[116, 105, 108, 108]⟩, .string ⟨#[122, 122]⟩] 9))) := Lib.hid (HMD.out.no ((Fr.refl _ _).alloc _))
    generalize wr.alloc (.cells #[.string ⟨#[97]⟩, .string ⟨#[98]⟩, .string ⟨#[99]⟩, .string ⟨#[98, 97, 110, 107]⟩, .string ⟨#[116, 105, 108, 108]⟩, .string ⟨#[122, 122]⟩] 9) = w6 at *
    have HNS : Hid (∀ j : Nat, j < 6 → ∃ s : ByteArray, s.size ≤ maxLen ∧ ∀ W, Fr No w6 W → W.cell? ((⟨wr.heap.size, 0, none⟩ : Addr).add j) = some (.string s)) := Lib.hid (fun j hj => by
      have key : ∀ (s : ByteArray), s.size ≤ maxLen → w6.cell? ⟨wr.heap.size, j, none⟩ = some (.string s) → ∃ s : ByteArray, s.size ≤ maxLen ∧ ∀ W, Fr No w6 W → W.cell? ((⟨wr.heap.size, 0, none⟩ : Addr).add j) = some (.string s) := fun s h1 h2 => ⟨s, h1, fun W hW => by rw [addr0]; exact hW.cell_some h2 (fun h => h)⟩
      have hc := HG0.out.cell j
      have h6 : j = 0 ∨ j = 1 ∨ j = 2 ∨ j = 3 ∨ j = 4 ∨ j = 5 := by omega
      rcases h6 with rfl | rfl | rfl | rfl | rfl | rfl <;> simp only [List.getElem?_toArray, List.getElem?_cons_zero, List.getElem?_cons_succ] at hc <;> exact key _ (by decide) hc)
    generalize hnad : (⟨wr.heap.size, 0, none⟩ : Addr) = nad at *
    have HOF : Hid (∀ W (s : ByteArray), s.size ≤ maxLen → Fr No w6 W → Calls Tryz.prog 18 #[.pointer (some ⟨d.p, 0, none⟩), .string s] W (RetOwn W 71 5 none (evsL bk0 l s.data.toList).length (evs (evsL bk0 l s.data.toList)))) := Lib.hid (fun W s hs hW => dof_any s W (HM6.out.dk.no hW) hs (by have := evsL_len bk0 l s.data.toList; omega))
    have HRE : Hid (∀ W (s : ByteArray), s.size ≤ maxLen → Fr No w6 W → Calls Tryz.prog 19 #[.slice AL l.length cL, .string s] W (RetOwn W 89 5 none (evsL bk0 l s.data.toList).length (evs (evsL bk0 l s.data.toList)))) := Lib.hid (fun W s hs hW => refev_any HM6.out.d2 HM6.out.below (by omega) (fun o ho => by have := HM6.out.lg o ho; omega) s hs W hW)
    have HSE : Hid (∀ W (s : ByteArray), s.size ≤ maxLen → Fr No w6 W → Calls Tryz.prog 20 #[.slice AL l.length cL, .string s] W (RetOwn W 71 5 none (evsL bk0 l s.data.toList).length (evs (evsL bk0 l s.data.toList)))) := Lib.hid (fun W s hs hW => sevents_any w W _ AL cL l s (HM6.out.d2.no hW).rowL.ods (HM6.out.no hW).below (by omega) (fun o ho => by have := HM6.out.lg o ho; omega) hs)
    have HC0 : Hid (∀ W, Fr No w6 W → W.cell? ⟨p, 0, none⟩ = some (.slice AL l.length cL)) := Lib.hid (fun W hW => by
      have h1 := HM6.out.d2.blk.cell 0
      simp only [List.getElem?_toArray, List.getElem?_cons_zero] at h1
      exact hW.cell_some h1 (fun h => h))
    clear hnad HMD HG0
    go_cut [16] (fun a16 wx => a16 = .int .i64 6 ∧ Fr No w6 wx)
    case first =>
      go_wp2
      go_loopw [16] (fun iv wr => ∃ j : Nat, iv = .int .i64 (j : Int) ∧ j ≤ 6 ∧ Fr No w6 wr) (fun iv _ => 6 - (intOf iv).toNat)
      case atStart => exact ⟨0, rfl, Nat.zero_le _, Fr.refl _ _⟩
      case round =>
        obtain ⟨j, rfl, hj, hf⟩ := hrel
        have HF := Lib.hid hf
        clear hf
        by_cases hj6 : j < 6
        · have hj6I : (j : Int) < 6 := by omega
          obtain ⟨s, hs, hcell⟩ := HNS.out j hj6
          have HSS := Lib.hid hs
          have HCJ := Lib.hid hcell
          have hel := evsL_len bk0 l s.data.toList
          have HOF2 := Lib.hid (fun W hW => HOF.out W s hs hW)
          have HRE2 := Lib.hid (fun W hW => HRE.out W s hs hW)
          have HSE2 := Lib.hid (fun W hW => HSE.out W s hs hW)
          have HEL : Hid ((evsL bk0 l s.data.toList).length ≤ 1000000) := Lib.hid (by omega)
          generalize evsL bk0 l s.data.toList = E at *
          have HX : Hid (∀ W, Fr No w6 W → Fr No w6 W ∧ W.cell? (nad.add j) = some (.string s) ∧ W.cell? ⟨p, 0, none⟩ = some (.slice AL l.length cL)) := Lib.hid (fun W hW => ⟨hW, HCJ.out W hW, HC0.out W hW⟩)
          have g0 : Fr No w6 wr.drew := HF.out.drew
          clear hs hcell hel
          go_upto_region 34 with (fail)
          go_region_held3 (fun W => Fr No w6 W ∧ W.cell? (nad.add j) = some (.string s) ∧ W.cell? ⟨p, 0, none⟩ = some (.slice AL l.length cL))
            (exact HX.out _ (by assumption))
            (first
            | (go_at_call 18; (with_reducible refine (HOF2.out _ g0).mono ?_); rintro e u1 ⟨v1, rfl, o1, f1, n1⟩; obtain ⟨A1, c1, rfl, -, -⟩ := o1.form; have g1 := Fr.trans g0 (fr_at_none f1))
            | (go_at_call 12; (with_reducible refine (as12_any _ A1 c1 E u1 o1.rd HEL.out).mono ?_); rintro e u2 ⟨v2, rfl, o2, f2, n2⟩; obtain ⟨A2, c2, rfl, -, -⟩ := o2.form; have g2 := Fr.trans g1 (fr_at_none f2))
            | (go_at_call 19; (with_reducible refine (HRE2.out _ g2).mono ?_); rintro e u3 ⟨v3, rfl, o3, f3, n3⟩; obtain ⟨A3, c3, rfl, -, -⟩ := o3.form; have g3 := Fr.trans g2 (fr_at_none f3); have o2' := Own.fr o2 (fr_at_none f3) (fun _ _ h => h); have hsm1 := same12_eq _ _ A2 A3 c2 c3 E u3 o2'.rd o3.rd HEL.out)
            | (go_at_call 11; (with_reducible refine hsm1.mono ?_); rintro e u4 ⟨rfl, f4⟩; have g4 := Fr.trans g3 f4)
            | (go_at_call 20; (with_reducible refine (HSE2.out _ g4).mono ?_); rintro e u5 ⟨v5, rfl, o5, f5, n5⟩; obtain ⟨A5, c5, rfl, -, -⟩ := o5.form; have g5 := Fr.trans g4 (fr_at_none f5))
            | (go_at_call 12; (with_reducible refine (as12_any _ A5 c5 E u5 o5.rd HEL.out).mono ?_); rintro e u6 ⟨v6, rfl, o6, f6, n6⟩; obtain ⟨A6, c6, rfl, -, -⟩ := o6.form; have g6 := Fr.trans g5 (fr_at_none f6))
            | (go_at_call 19; (with_reducible refine (HRE2.out _ g6).mono ?_); rintro e u7 ⟨v7, rfl, o7, f7, n7⟩; obtain ⟨A7, c7, rfl, -, -⟩ := o7.form; have g7 := Fr.trans g6 (fr_at_none f7); have o6' := Own.fr o6 (fr_at_none f7) (fun _ _ h => h); have hsm2 := same12_eq _ _ A6 A7 c6 c7 E u7 o6'.rd o7.rd HEL.out)
            | (go_at_call 11; (with_reducible refine hsm2.mono ?_); rintro e u8 ⟨rfl, f8⟩; have g8 := Fr.trans g7 f8))
          all_goals
            have HG8 := Lib.hid g8
            clear g0 g1 g2 g3 g4 g5 g6 g7 g8 o1 o2 o2' o3 o5 o6 o6' o7 f1 f2 f3 f4 f5 f6 f7 f8 n1 n2 n3 n5 n6 n7 hsm1 hsm2
            go_wp2
            go_roundw
            case rel => exact ⟨j + 1, by first | go_num | simp | rfl, hj6, HG8.out⟩
            case measure => simp [intOf]; omega
        · obtain rfl : j = 6 := by omega
          have HEND : Hid (Fr No w6 wr) := HF
          go_wp2
          go_meet
          case rel => exact ⟨by first | rfl | simp, HEND.out⟩
    case rest =>
      obtain ⟨rfl, hf7⟩ := hcut
      generalize wc = w7 at *
      have HM7 := Lib.hid (HM6.out.no hf7)
      have HC7 := HC0.out w7 hf7
      have HFO : Hid (Calls Tryz.prog 21 #[.slice AL l.length cL] w7 (FoldRet w7 l)) := Lib.hid (fold_any w w7 _ AL cL l HM7.out.d2.rowL.ods HM7.out.below (by omega))
      have HBO : Hid (∀ W, Fr No w7 W → Calls Tryz.prog 23 #[.pointer (some ⟨d.p, 0, none⟩)] W (NewB W (foldB bk0 l))) := Lib.hid (fun W hW => dbook_any W (HM7.out.dk.no hW))
      clear hf7
      go_wp2_with (first
        | (go_at_call 21; (with_reducible refine HFO.out.mono ?_); rintro _ u1 ⟨A1, c1, b1, rfl, -, hb1, hf1, -, -, -⟩; have HB1 := Lib.hid hb1; have HG1 := Lib.hid hf1; clear hb1 hf1)
        | (go_at_call 23; (with_reducible refine (HBO.out _ HG1.out).mono ?_); rintro _ u2 ⟨b2, rfl, hb2, hf2, -⟩; have HSM := Lib.hid (bsame_any b2 b1 (foldB bk0 l) (foldB bk0 l) u2 hb2 (HB1.out.no hf2)); have HG2 := Lib.hid (HG1.out.trans hf2); clear hb2 hf2)
        | (go_at_call 22; (with_reducible refine HSM.out.mono ?_); rintro _ u3 ⟨rfl, hf3⟩; have HG3 := Lib.hid (HG2.out.trans hf3); clear hf3))
      go_ret
      refine ⟨?_, (HM7.out.fr.trans HG3.out).belowNo⟩
      have e9 : sameBk (foldB bk0 l) (foldB bk0 l) = true := by unfold sameBk; simp
      rw [e9]
      first | rfl | skip
end Go.Proofs.YtjbeaoabhhaiiaaGreat

namespace Go.Proofs.YtjbeaoabhhaiiaaGreat.lawStreamPlays
open Go.ChangeShapes Go.WideShapes Go.ChangeAt Go.RowKit Go.My
open Go.ChangeMaps (open_string shut_string)
set_option linter.unusedVariables false
set_option linter.unusedSimpArgs false

theorem own : ownKnob Tryz.prog.godebug = none := by kernel_rfl
theorem laidOut : laidOutB Tryz.prog = true := by kernel_rfl

set_option maxRecDepth 100000 in
theorem lifted (os : Os) (started : os.Started) (H : Type) (enc : TypeId × Value → H) :
    ReturnsInHanded {} Tryz.checked os 3 .any (Rows.streamPlaysSpec.pre6 enc Tryz.prog Tryz.f3 Rows.streamPlaysRow.domain false) (Rows.streamPlaysSpec.post enc Tryz.prog Tryz.f3 false true false false) := by
  refine returnsInHanded_of_change (C := Tryz.checked) own started (by kernel_rfl) Tryz.func3
    (ChangeSpec.witness6 (enc := enc) (C := Tryz.checked) false ⟨#[], #[.slice none 0 0], []⟩ 8 (by kernel_rfl) (by kernel_rfl) (by kernel_rfl) (by kernel_rfl)) ?_
  intro W base args ds gs before hval0 hW hcnd _
  have hval : ∀ (j : Nat) t v, Tryz.f3.params[j]? = some t → args[j]? = some v → Value.okWide Tryz.prog W .any base t v := hval0
  have hW' := hW
  obtain ⟨p, q, hA0, hV, rfl, hfz, hnd⟩ := hW
  have hA : DataW.TrodAll enc Tryz.prog W 0 (fun _ => true) true Tryz.f3.params.toList args.toList ds p := hA0
  rw [Tryz.params3] at hA hval
  obtain ⟨v0, vs0, d0, ds0, p0, q0, hargs, rfl, rfl, h0, r0⟩ := trodAll_cons hA
  obtain ⟨rfl, rfl, rfl⟩ := trodAll_nil r0
  obtain rfl : args = #[v0] := by cases args; simp_all
  obtain ⟨rfl, rfl⟩ := trodVars_none hV
  obtain ⟨A0, n0, c0, rfl⟩ := okWide_slice Tryz.underlying22 (hval 0 22 v0 rfl rfl)
  have k0 := h0
  have lt0 : ∀ x ∈ p0, x.block < W.heap.size := by obtain ⟨m, hm⟩ := k0; exact DataW.trod_lt m _ _ _ hm
  obtain ⟨fu0, hf0⟩ := h0
  obtain ⟨A0', c0', l0, hcs0, rd0, lc0, cm0⟩ := open_ops hf0
  simp [Value.cells] at hcs0
  obtain ⟨rfl, rfl, rfl⟩ := hcs0
  clear hA0 hval0
  refine (streamPlays_walk A0 c0 l0 W rd0 lc0 cm0).mono fun e W' ⟨he, bel⟩ => ?_
  subst he
  exact ⟨_, rfl, _, _, _, [], _, [], hW', trodAll_mk1 (shut_bool Tryz.underlying4 _), (trodAll_cons_mk (Below.trod laidOut (by kernel_rfl) (of_decide_eq_true (by kernel_rfl)) k0 bel lt0) trodAll_mk0), rfl, bel.frame _, fun h => by cases h⟩

theorem over : Rows.streamPlaysRow.holds Tryz.pinned (OpenSpec.ofChange Rows.streamPlaysSpec) :=
  OpenClaim.holds_of_wide 3 Tryz.f3 rfl rfl rfl rfl rfl rfl rfl ⟨rfl, rfl, rfl, rfl, rfl⟩ rfl rfl rfl rfl rfl (by kernel_rfl) Tryz.func3 (by kernel_rfl)
    (of_decide_eq_true (by kernel_rfl)) (by unfold Func.isWrapper; first | (rw [if_pos (by decide +kernel)]; kernel_rfl) | (rw [if_neg (by decide +kernel)]; exact ⟨rfl, rfl⟩))
    (fun os started H enc _ => lifted os started H enc)

theorem proved : Rows.StreamPlaysSaid := over
end Go.Proofs.YtjbeaoabhhaiiaaGreat.lawStreamPlays
