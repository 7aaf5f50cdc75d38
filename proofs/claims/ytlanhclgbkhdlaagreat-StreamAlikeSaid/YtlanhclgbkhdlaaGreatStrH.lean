/- StreamAlike: the walk. -/
import Derived.Test.YtlanhclgbkhdlaaGreatQ19
import Derived.Test.YtlanhclgbkhdlaaGreatOwn12
namespace Go.Proofs.YtlanhclgbkhdlaaGreat
open Go.RowKit Go.My Go.Maps Go.WideMaps
set_option linter.unusedSimpArgs false
set_option linter.unusedVariables false
attribute [local go_sem ↓] Go.wp_at_zero Go.wp_at_succ

def nm5 : List (List UInt8) := [[97], [98], [99], [98, 97, 110, 107], [116, 105, 108, 108]]
theorem nm5_len (i : Nat) (h : i < nm5.length) : nm5[i].length ≤ maxLen := by
  have : ∀ x ∈ nm5, x.length ≤ maxLen := by decide
  exact this _ (List.getElem_mem h)
def AkRel (w5 : World) (iv : Value) (wr : World) : Prop := ∃ i : Nat, i ≤ 5 ∧ iv = .int .i64 i ∧ Fr No w5 wr
set_option maxRecDepth 100000 in
set_option maxHeartbeats 4000000 in
theorem streamAlike_walk (A : Option Addr) (c : Nat) (l0 : List Od) (B : Option Addr) (d : Nat) (S : List Int) (w : World) (ra : OdsS w w (Lt w.heap.size) A l0) (ca : l0.length ≤ c) (ma : c ≤ maxLen) (rb : Rd w (Lt w.heap.size) 1 B S.length (is_ S)) (cb : S.length ≤ d) (mb : d ≤ maxLen) (hI : I64s S) :
    Calls Tryz.prog 3 #[.slice A l0.length c, .slice B S.length d] w fun e w' => e = .returned (.bool true) ∧ Below w.heap.size w w' := by
  have HLV := Lib.hid (lives12 w)
  have HFW : Hid (∀ W, Fr No w W → Calls Tryz.prog 8 #[.slice A l0.length c, .int .i64 40] W (FewRet w W (fewO l0 40))) := fun W hW => few10_any w W _ A c l0 40 (ra.fr hW (fun _ _ _ h => h)) ca ma (by omega)
  have HLG : Hid (∀ o ∈ fewO l0 40, o.legs.length ≤ 100000) := fewO_legs
  have hll : (fewO l0 40).length ≤ 40 := by rw [fewO_length]; omega
  have hn : (fewO l0 40).length ≤ 1000000 := by omega
  have HI := Lib.hid hI
  have HRB := Lib.hid rb
  have hSb : S.length ≤ 9223372036854775807 := by unfold maxLen at mb; omega
  generalize hl : fewO l0 40 = l at *
  clear hl ra rb hI
  go_enter Tryz.func3, Tryz.ntmps3
  go_wp2_with fail
  refine HLV.out.mono ?_
  rintro e w1 ⟨rfl, hf1⟩
  have HF1 := Lib.hid hf1
  clear hf1 HLV
  go_wp2_with fail
  (with_reducible refine (HFW.out _ HF1.out).mono ?_)
  rintro e w3 ⟨A3, c3, rfl, ho3, hc3, hm3, hf3⟩
  have HF3 : Hid (Fr No w w3) := HF1.out.trans hf3
  have HL := Lib.hid ho3
  clear ho3 hf3 HFW HF1
  have HAT : Hid (∀ W a b, Fr No w3 W → Calls Tryz.prog 9 #[.slice A3 l.length c3, .agg #[.int .i64 a, .int .i64 b]] W fun e w' => e = .returned (.int .i64 (atL (idsO l) (a, b))) ∧ Fr No W w') := fun W a b hW => at10_any w W _ A3 c3 l a b (HL.out.fr hW (fun _ _ _ h => h)) hn
  go_wp2
  go_loopw [5, 6] (fun lv iv wr => OwRel w w3 l lv iv wr) (fun _ iv _ => l.length - (intOf iv).toNat)
  case atStart => exact ⟨0, Nat.zero_le _, rfl, OwnO.nil _ _, Fr.refl _ _, .inl rfl⟩
  case round =>
    obtain ⟨k, hk, rfl, hown, hfr, hnew⟩ := hrel
    have hk62 : (k : Int) ≤ 1000000 := by omega
    by_cases hlt : k < l.length
    · obtain ⟨ad, v, rfl, _, hok, hg, hL, q0, q1, q2, q3, q4, q5, q6, q7, q8, q9⟩ := (HL.out.fr hfr (fun _ _ _ h => h)).at_ k hlt
      obtain ⟨B, d, rfl, hd1, hd2⟩ := hL.form
      have HTK : Hid (ownT l (k + 1) = ownT l k ++ if atL (idsO l) (l[k].cl, l[k].sq) = (k : Int) then [l[k]] else []) := by
        show _ = _
        conv => lhs; unfold ownT
        rw [List.getElem?_eq_getElem hlt]
        rfl
      have HO : Hid (OdR w [.int .i64 l[k].cl, .int .i64 l[k].sq, .int .i64 l[k].kd, .string l[k].acct, .string l[k].peer, .int .i64 l[k].sum, .slice B l[k].legs.length d, .int .i64 l[k].per, .int .i64 l[k].hold, .string l[k].note] l[k]) := ⟨_, rfl, hok, hg, hL⟩
      have HLK : Hid ((ownT l k).length ≤ k) := ownT_len l k
      have HFR := Lib.hid hfr
      have HNW := Lib.hid hnew
      have HLT : Hid (k + 1 ≤ l.length) := hlt
      have HOWN := Lib.hid hown
      obtain ⟨cells, ho, hE⟩ := hown
      have HOO := Lib.hid ho
      have HE := Lib.hid hE
      generalize l[k].legs.length = Ln at *
      generalize l[k].cl = cl at *
      generalize l[k].sq = sq at *
      generalize l[k].kd = kd at *
      generalize l[k].acct = acct at *
      generalize l[k].peer = peer at *
      generalize l[k].sum = sum at *
      generalize l[k].per = per at *
      generalize l[k].hold = hold at *
      generalize l[k].note = note at *
      generalize l[k] = ok_ at *
      clear hok hg hL ho hE hfr hnew
      have HAK := Lib.hid (HAT.out wr cl sq HFR.out)
      generalize ownT l k = lk at *
      by_cases he : atL (idsO l) (cl, sq) = (k : Int)
      · rw [he] at HAK HTK
        have HTK2 : Hid (ownT l (k + 1) = lk ++ [ok_]) := by show _ = _; rw [HTK.out, if_pos rfl]
        clear HTK he
        go_wp2_with fail
        (with_reducible refine HAK.out.mono ?_)
        rintro e w1 ⟨rfl, hf1⟩
        have HR : Hid (∀ p v, wr.cell? p = some v → w1.cell? p = some v) := fun p v h => hf1.cell_some h (fun h => h)
        have r0 := HR.out _ _ q0
        have r1 := HR.out _ _ q1
        have r2 := HR.out _ _ q2
        have r3 := HR.out _ _ q3
        have r4 := HR.out _ _ q4
        have r5 := HR.out _ _ q5
        have r6 := HR.out _ _ q6
        have r7 := HR.out _ _ q7
        have r8 := HR.out _ _ q8
        have r9 := HR.out _ _ q9
        have HF1 := Lib.hid hf1
        clear q0 q1 q2 q3 q4 q5 q6 q7 q8 q9 hf1 HR
        go_wp2_with (at_builtin; refine wpList_app _ rfl (.tmp 32) (.tmp 37) 22 22 rfl elO ((HOO.out.fr HF1.out (fun _ _ h => h)).alloc _) rfl (Src.of_new (cs := #[.int .i64 cl, .int .i64 sq, .int .i64 kd, .string acct, .string peer, .int .i64 sum, .slice B Ln d, .int .i64 per, .int .i64 hold, .string note]) (t := 31) w1.heap.size (heap_alloc_new w1 _) Tryz.underlying22 rfl (by simp [Value.oneCell'])) rfl (by have := HLK.out; simp only [maxLen]; omega) (by have := HLK.out; omega) ?_; intro v1 w3 hown3 hfr3 hnew3)
        go_roundw
        case rel =>
          refine ⟨k + 1, HLT.out, by go_num, ?_, ?_, ?_⟩
          · rw [HTK2.out]
            exact ⟨_, by rw [List.length_append]; exact hown3, Each.snocO HE.out rfl HO.out⟩
          · refine ((HFR.out.trans HF1.out).alloc _).trans' hfr3 fun i hi hlt => ?_
            have hi : _ = some i := hi
            have := newer_none HNW.out i hi
            omega
          · refine HNW.out.trans (Newer.of hnew3) ?_
            rw [World.size_alloc]
            have h1 := HF1.out.size
            have := HFR.out.size
            omega
        case measure => have := HLT.out; simp [intOf]; omega
      · have HTK2 : Hid (ownT l (k + 1) = lk) := by show _ = _; rw [HTK.out, if_neg he, List.append_nil]
        have hbe : (atL (idsO l) (cl, sq) == (k : Int)) = false := beq_eq_false_iff_ne.2 he
        generalize atL (idsO l) (cl, sq) = at_ at *
        clear HTK he
        go_wp2_with fail
        (with_reducible refine HAK.out.mono ?_)
        rintro e w1 ⟨rfl, hf1⟩
        clear q0 q1 q2 q3 q4 q5 q6 q7 q8 q9
        have HF1 := Lib.hid hf1
        clear hf1
        go_wp2
        go_roundw
        case rel =>
          refine ⟨k + 1, HLT.out, by go_num, ?_, HFR.out.trans HF1.out, HNW.out⟩
          rw [HTK2.out]
          exact ⟨cells, HOO.out.fr HF1.out (fun _ _ h => h), HE.out⟩
        case measure => have := HLT.out; simp [intOf]; omega
    · obtain rfl : k = l.length := by omega
      obtain ⟨A1, c1, rfl, hl1, hm1⟩ := OwnO.form hown
      have HB0 : Hid (Ls wr Tr A1 c1 (ownO l)) := ⟨(hown.ods.up (HF3.out.trans hfr)).more fun _ _ => trivial, by have := ownT_len l l.length; unfold ownO; omega, hl1, fun o ho => HLG.out o (mem_own ho)⟩
      have HRT : Hid (Rt Od.id (ownO l)) := own_rt l
      have hbl : (ownO l).length ≤ 40 := by have := ownT_len l l.length; unfold ownO; omega
      have HF4 : Hid (Fr No w wr) := HF3.out.trans hfr
      have hob : ownT l l.length = ownO l := rfl
      rw [hob]
      generalize hb : ownO l = b at *
      have HST : Hid (MxRel wr b S.length (.slice A1 b.length c1) (.int .i64 0) wr) := ⟨0, A1, c1, b, rfl, rfl, Nat.zero_le _, HB0.out, rfl, Ak.refl HRT.out, Fr.refl _ _, hm1⟩
      have HS := Lib.hid (HRB.out.fr (by decide : 0 < 1) HF4.out (fun _ _ _ h => h))
      clear hown hfr hnew hb hob HAT HL hk hl1
      generalize wr = w4 at *
      go_wp2
      go_loopw [7, 8] (fun lv iv wr => MxRel w4 b S.length lv iv wr) (fun _ iv _ => S.length - (intOf iv).toNat)
      case atStart => exact HST.out
      case round =>
        obtain ⟨k, A1_, c1_, m, rfl, rfl, hk, hls, hlen, hak, hfr, hc1⟩ := hrel
        by_cases hlt : k < S.length
        · by_cases h2 : k < 200
          · obtain ⟨ad, u, rfl, _, hu, q0⟩ := (HS.out.fr (by omega) hfr (fun _ _ _ h => h)).at_ hlt
            have hx : In64 S[k] := HI.out _ (List.getElem_mem hlt)
            have hux : u = .int .i64 S[k] := by
              have := is_get S k hlt
              rw [this] at hu
              injection hu with hu
              exact hu.symm
            subst hux
            generalize S[k] = x at *
            have hk62 : (k : Int) ≤ 200 := by omega
            have hni : (k : Int) < S.length := by omega
            obtain ⟨j, hj, hjl⟩ := umod x (m.length + 1) (by omega) (by have := hls.n; omega)
            have hj' : wrap64 ((IntKind.u64.wrap x).tmod ((m.length : Int) + 1)) = (j : Int) := hj
            obtain ⟨hw1, hw2, hnz⟩ := len_succ hls.n
            have hji : In64 (j : Int) := j_in hjl hls.n
            have HSW : Hid (Calls Tryz.prog 10 #[.slice A1_ m.length c1_, .int .i64 (j : Int)] wr (SwRet wr (swapI m j))) := swapC_any wr Tr A1_ c1_ m j hls hji
            have HAK := Lib.hid hak
            have HLS := Lib.hid hls
            have HFR := Lib.hid hfr
            have HLT : Hid (k + 1 ≤ S.length) := hlt
            have HLEN := Lib.hid hlen
            have HC1 := Lib.hid hc1
            have HRM := Lib.hid (hak.2.2.1)
            clear hx hj hjl hji hak hls hfr hlt hlen hc1
            cases hsw : swapI m j with
            | none =>
              rw [hsw] at HSW
              have HSW2 : Hid (Calls Tryz.prog 10 #[.slice A1_ m.length c1_, .int .i64 (j : Int)] wr fun e w' => e = .returned (.tuple #[.slice none 0 0, .bool false]) ∧ Fr No wr w') := HSW.out
              clear HSW hsw
              go_wp2_with fail
              (with_reducible refine HSW2.out.mono ?_)
              rintro e w1 ⟨rfl, hf1⟩
              clear q0
              go_wp2
              go_roundw
              case rel => exact ⟨k + 1, A1_, c1_, m, rfl, by go_num, HLT.out, HLS.out.no hf1, HLEN.out, HAK.out, HFR.out.trans hf1, HC1.out⟩
              case measure => have := HLT.out; simp [intOf]; omega
            | some m2 =>
              rw [hsw] at HSW
              have HSW2 : Hid (Calls Tryz.prog 10 #[.slice A1_ m.length c1_, .int .i64 (j : Int)] wr (RetN2 wr m2 true)) := HSW.out
              obtain ⟨i0, hi0⟩ := swapI_nat hsw
              have HM := Lib.hid (swap_mem hi0)
              have HAK2 := Lib.hid (HAK.out.trans (swap_ak HRM.out hi0))
              clear HSW hsw hi0
              go_wp2_with fail
              (with_reducible refine HSW2.out.mono ?_)
              rintro e w1 ⟨A2, c2, rfl, ho2, hf1, -⟩
              have HO2 := Lib.hid ho2
              clear q0 ho2
              go_wp2
              go_roundw
              case rel =>
                have h1 := HM.out.1
                have h2 := HLS.out.n
                obtain ⟨_, _, e, _, hc2⟩ := HO2.out.form
                injection e with _ _ e3
                subst e3
                exact ⟨k + 1, A2, c2, m2, rfl, by go_num, HLT.out, HO2.out.ls (by omega) (fun o ho => HLS.out.s o (HM.out.2 o ho)), h1.trans HLEN.out, HAK2.out, HFR.out.trans hf1, hc2⟩
              case measure => have := HLT.out; simp [intOf]; omega
          · have hd200 : ¬ (k : Int) < 200 := by omega
            have hd2 : (k : Int) < S.length := by omega
            have HLm := Lib.hid hls
            have HLb := Lib.hid (HB0.out.no hfr)
            have HF5 : Hid (Fr No w wr) := HF4.out.trans hfr
            have HEQ : Hid (∀ nm, evsL bk0 m nm = evsL bk0 b nm) := fun nm => (evs_ak nm b m bki0 HB0.out.ods.ok hak).symm
            have hml : m.length ≤ 40 := by omega
            clear hls hlen hak hfr hc1
            generalize wr = w5 at *
            have hnb := Blk.new w5 9 #[.string ⟨#[97]⟩, .string ⟨#[98]⟩, .string ⟨#[99]⟩, .string ⟨#[98, 97, 110, 107]⟩, .string ⟨#[116, 105, 108, 108]⟩]
            have HNM : Hid (Rd (w5.alloc (.cells #[.string ⟨#[97]⟩, .string ⟨#[98]⟩, .string ⟨#[99]⟩, .string ⟨#[98, 97, 110, 107]⟩, .string ⟨#[116, 105, 108, 108]⟩] 9)) (fun _ => True) 1 (some ⟨w5.heap.size, 0, none⟩) 5 (ts nm5)) := ⟨rfl, fun _ => ⟨_, rfl, trivial, fun j u hu => by
              rw [add_zero, hnb.cell j]
              rw [← hu]
              unfold nm5 ts
              simp only [List.getElem?_toArray]
              rfl⟩⟩
            have HFA : Hid (Fr No w5 (w5.alloc (.cells #[.string ⟨#[97]⟩, .string ⟨#[98]⟩, .string ⟨#[99]⟩, .string ⟨#[98, 97, 110, 107]⟩, .string ⟨#[116, 105, 108, 108]⟩] 9))) := (Fr.refl _ _).alloc _
            clear hnb
            go_wp2
            generalize w5.alloc (.cells #[.string ⟨#[97]⟩, .string ⟨#[98]⟩, .string ⟨#[99]⟩, .string ⟨#[98, 97, 110, 107]⟩, .string ⟨#[116, 105, 108, 108]⟩] 9) = w6 at *
            generalize hnad : (⟨w5.heap.size, 0, none⟩ : Addr) = nad at *
            clear hnad
            go_loopw [12] (fun iv wr => AkRel w6 iv wr) (fun iv _ => 5 - (intOf iv).toNat)
            case atStart => exact ⟨0, by omega, rfl, Fr.refl _ _⟩
            case round =>
              obtain ⟨i, hi, rfl, hfr⟩ := hrel
              by_cases hlt5 : i < 5
              · obtain ⟨bd, u, hbd, _, hu, hbc⟩ := (HNM.out.fr (by decide : 0 < 1) hfr (fun _ _ _ h => h)).at_ hlt5
                injection hbd with hbd
                subst hbd
                have hil : i < nm5.length := hlt5
                rw [ts_get nm5 i hil] at hu
                injection hu with hu
                subst hu
                have hnml : nm5[i].length ≤ maxLen := nm5_len i hil
                generalize nm5[i] = nm at *
                have hun : encStr nm = .string ⟨nm.toArray⟩ := rfl
                rw [hun] at hbc
                have HXX : Hid (∀ W, Fr No wr W → Fr No wr W ∧ W.cell? (nad.add i) = some (.string ⟨nm.toArray⟩)) := fun W hW => ⟨hW, hW.cell_some hbc (fun h => h)⟩
                have HFk : Hid (Fr No w5 wr) := HFA.out.trans hfr
                obtain ⟨L, hL⟩ : ∃ L, L = evsL bk0 b nm := ⟨_, rfl⟩
                have hLl : L.length ≤ 60 := by
                  have := evsL_len bk0 b nm
                  rw [hL]
                  omega
                have HE1 : Hid (∀ W, Fr No wr W → Calls Tryz.prog 13 #[.slice A1 b.length c1, .string ⟨nm.toArray⟩] W (RetOwn W 65 5 none L.length (evs L))) := fun W hW => by
                  have hls := (HLb.out.no HFk.out).no hW
                  have h := sevents_any W W _ A1 c1 b ⟨nm.toArray⟩ hls.ods (Below.refl _ _) (by omega) hls.s hnml
                  have e : evsL bk0 b (⟨nm.toArray⟩ : ByteArray).data.toList = L := hL.symm
                  rw [e] at h
                  exact h
                have HE2 : Hid (∀ W, Fr No wr W → Calls Tryz.prog 13 #[.slice A1_ m.length c1_, .string ⟨nm.toArray⟩] W (RetOwn W 65 5 none L.length (evs L))) := fun W hW => by
                  have hls := (HLm.out.no HFk.out).no hW
                  have h := sevents_any W W _ A1_ c1_ m ⟨nm.toArray⟩ hls.ods (Below.refl _ _) (by omega) hls.s hnml
                  have e : evsL bk0 m (⟨nm.toArray⟩ : ByteArray).data.toList = L := by rw [hL]; exact HEQ.out nm
                  rw [e] at h
                  exact h
                have HAS : Hid (∀ W F A c, Rd W F 5 A L.length (evs L) → Calls Tryz.prog 12 #[.slice A L.length c] W (RetOwn W 73 5 none L.length (evs L))) := fun W F A c h => as12_any F A c L W h (by omega)
                have HSM : Hid (∀ W F G A B c d, Rd W F 5 A L.length (evs L) → Rd W G 5 B L.length (evs L) → Calls Tryz.prog 11 #[.slice A L.length c, .slice B L.length d] W fun e w' => e = .returned (.bool true) ∧ Fr No W w') := fun W F G A B c d h1 h2 => same12_eq F G A B c d L W h1 h2 (by omega)
                have HFR := Lib.hid hfr
                clear hL hfr hbc hun
                go_wp2
                go_upto_region 21 with (fail)
                have hk0 : Fr No wr wr.drew := (Fr.refl _ wr).drew
                go_region_held3 (fun W => Fr No wr W ∧ W.cell? (nad.add i) = some (.string ⟨nm.toArray⟩))
                  (first
                    | (with_reducible refine HXX.out _ ?_; with_reducible assumption)
                    | (refine HXX.out _ ?_; assumption))
                  (first
                    | (go_at_call 13; (with_reducible refine (HE1.out _ hk0).mono ?_); rintro e q1 ⟨y1, rfl, ho1, hf1', hn1⟩; obtain ⟨Ax, cx, rfl, hcx, hmx⟩ := ho1.form; have hf1 := fr_at_none hf1'; have kq1 : Fr No wr q1 := hk0.trans hf1; clear hf1' hn1)
                    | (go_at_call 12; (with_reducible refine (HAS.out _ _ _ _ ho1.rd).mono ?_); rintro e q2 ⟨y2, rfl, ho2, hf2', hn2⟩; obtain ⟨Ay, cy, rfl, hcy, hmy⟩ := ho2.form; have hf2 := fr_at_none hf2'; have kq2 : Fr No wr q2 := kq1.trans hf2; clear hf2' hn2)
                    | (go_at_call 13; (with_reducible refine (HE2.out _ kq2).mono ?_); rintro e q3 ⟨y3, rfl, ho3, hf3', hn3⟩; obtain ⟨Az, cz, rfl, hcz, hmz⟩ := ho3.form; have hf3 := fr_at_none hf3'; have kq3 : Fr No wr q3 := kq2.trans hf3; have ho23 := ho2.fr hf3 (fun _ _ h => h); clear hf3' hn3)
                    | (go_at_call 12; (with_reducible refine (HAS.out _ _ _ _ ho3.rd).mono ?_); rintro e q4 ⟨y4, rfl, ho4, hf4', hn4⟩; obtain ⟨Aw, cw, rfl, hcw, hmw⟩ := ho4.form; have hf4 := fr_at_none hf4'; have kq4 : Fr No wr q4 := kq3.trans hf4; have ho24 := ho23.fr hf4 (fun _ _ h => h); clear hf4' hn4)
                    | (go_at_call 11; (with_reducible refine (HSM.out _ _ _ _ _ _ _ ho24.rd ho4.rd).mono ?_); rintro e q5 ⟨rfl, hf5⟩; have kq5 : Fr No wr q5 := kq4.trans hf5; have HK5 : Hid (Fr No w6 q5) := HFR.out.trans kq5))
                all_goals
                  clear ho1 ho2 ho3 ho4 ho23 ho24 hf1 hf2 hf3 hf4 hf5 kq1 kq2 kq3 kq4 kq5 hk0
                  go_wp2
                  go_roundw
                  case rel => exact ⟨i + 1, by omega, by go_num, HK5.out⟩
                  case measure => simp [intOf]; omega
              · have hi5 : i = 5 := by omega
                subst hi5
                go_wp2
                go_ret
                exact ⟨rfl, ((HF5.out.trans HFA.out).trans hfr).belowNo⟩
        · have hd2 : ¬ (k : Int) < S.length := by omega
          have HLm := Lib.hid hls
          have HLb := Lib.hid (HB0.out.no hfr)
          have HF5 : Hid (Fr No w wr) := HF4.out.trans hfr
          have HEQ : Hid (∀ nm, evsL bk0 m nm = evsL bk0 b nm) := fun nm => (evs_ak nm b m bki0 HB0.out.ods.ok hak).symm
          have hml : m.length ≤ 40 := by omega
          clear hls hlen hak hfr hc1
          generalize wr = w5 at *
          have hnb := Blk.new w5 9 #[.string ⟨#[97]⟩, .string ⟨#[98]⟩, .string ⟨#[99]⟩, .string ⟨#[98, 97, 110, 107]⟩, .string ⟨#[116, 105, 108, 108]⟩]
          have HNM : Hid (Rd (w5.alloc (.cells #[.string ⟨#[97]⟩, .string ⟨#[98]⟩, .string ⟨#[99]⟩, .string ⟨#[98, 97, 110, 107]⟩, .string ⟨#[116, 105, 108, 108]⟩] 9)) (fun _ => True) 1 (some ⟨w5.heap.size, 0, none⟩) 5 (ts nm5)) := ⟨rfl, fun _ => ⟨_, rfl, trivial, fun j u hu => by
            rw [add_zero, hnb.cell j]
            rw [← hu]
            unfold nm5 ts
            simp only [List.getElem?_toArray]
            rfl⟩⟩
          have HFA : Hid (Fr No w5 (w5.alloc (.cells #[.string ⟨#[97]⟩, .string ⟨#[98]⟩, .string ⟨#[99]⟩, .string ⟨#[98, 97, 110, 107]⟩, .string ⟨#[116, 105, 108, 108]⟩] 9))) := (Fr.refl _ _).alloc _
          clear hnb
          go_wp2
          generalize w5.alloc (.cells #[.string ⟨#[97]⟩, .string ⟨#[98]⟩, .string ⟨#[99]⟩, .string ⟨#[98, 97, 110, 107]⟩, .string ⟨#[116, 105, 108, 108]⟩] 9) = w6 at *
          generalize hnad : (⟨w5.heap.size, 0, none⟩ : Addr) = nad at *
          clear hnad
          go_loopw [12] (fun iv wr => AkRel w6 iv wr) (fun iv _ => 5 - (intOf iv).toNat)
          case atStart => exact ⟨0, by omega, rfl, Fr.refl _ _⟩
          case round =>
            obtain ⟨i, hi, rfl, hfr⟩ := hrel
            by_cases hlt5 : i < 5
            · obtain ⟨bd, u, hbd, _, hu, hbc⟩ := (HNM.out.fr (by decide : 0 < 1) hfr (fun _ _ _ h => h)).at_ hlt5
              injection hbd with hbd
              subst hbd
              have hil : i < nm5.length := hlt5
              rw [ts_get nm5 i hil] at hu
              injection hu with hu
              subst hu
              have hnml : nm5[i].length ≤ maxLen := nm5_len i hil
              generalize nm5[i] = nm at *
              have hun : encStr nm = .string ⟨nm.toArray⟩ := rfl
              rw [hun] at hbc
              have HXX : Hid (∀ W, Fr No wr W → Fr No wr W ∧ W.cell? (nad.add i) = some (.string ⟨nm.toArray⟩)) := fun W hW => ⟨hW, hW.cell_some hbc (fun h => h)⟩
              have HFk : Hid (Fr No w5 wr) := HFA.out.trans hfr
              obtain ⟨L, hL⟩ : ∃ L, L = evsL bk0 b nm := ⟨_, rfl⟩
              have hLl : L.length ≤ 60 := by
                have := evsL_len bk0 b nm
                rw [hL]
                omega
              have HE1 : Hid (∀ W, Fr No wr W → Calls Tryz.prog 13 #[.slice A1 b.length c1, .string ⟨nm.toArray⟩] W (RetOwn W 65 5 none L.length (evs L))) := fun W hW => by
                have hls := (HLb.out.no HFk.out).no hW
                have h := sevents_any W W _ A1 c1 b ⟨nm.toArray⟩ hls.ods (Below.refl _ _) (by omega) hls.s hnml
                have e : evsL bk0 b (⟨nm.toArray⟩ : ByteArray).data.toList = L := hL.symm
                rw [e] at h
                exact h
              have HE2 : Hid (∀ W, Fr No wr W → Calls Tryz.prog 13 #[.slice A1_ m.length c1_, .string ⟨nm.toArray⟩] W (RetOwn W 65 5 none L.length (evs L))) := fun W hW => by
                have hls := (HLm.out.no HFk.out).no hW
                have h := sevents_any W W _ A1_ c1_ m ⟨nm.toArray⟩ hls.ods (Below.refl _ _) (by omega) hls.s hnml
                have e : evsL bk0 m (⟨nm.toArray⟩ : ByteArray).data.toList = L := by rw [hL]; exact HEQ.out nm
                rw [e] at h
                exact h
              have HAS : Hid (∀ W F A c, Rd W F 5 A L.length (evs L) → Calls Tryz.prog 12 #[.slice A L.length c] W (RetOwn W 73 5 none L.length (evs L))) := fun W F A c h => as12_any F A c L W h (by omega)
              have HSM : Hid (∀ W F G A B c d, Rd W F 5 A L.length (evs L) → Rd W G 5 B L.length (evs L) → Calls Tryz.prog 11 #[.slice A L.length c, .slice B L.length d] W fun e w' => e = .returned (.bool true) ∧ Fr No W w') := fun W F G A B c d h1 h2 => same12_eq F G A B c d L W h1 h2 (by omega)
              have HFR := Lib.hid hfr
              clear hL hfr hbc hun
              go_wp2
              go_upto_region 21 with (fail)
              have hk0 : Fr No wr wr.drew := (Fr.refl _ wr).drew
              go_region_held3 (fun W => Fr No wr W ∧ W.cell? (nad.add i) = some (.string ⟨nm.toArray⟩))
                (first
                  | (with_reducible refine HXX.out _ ?_; with_reducible assumption)
                  | (refine HXX.out _ ?_; assumption))
                (first
                  | (go_at_call 13; (with_reducible refine (HE1.out _ hk0).mono ?_); rintro e q1 ⟨y1, rfl, ho1, hf1', hn1⟩; obtain ⟨Ax, cx, rfl, hcx, hmx⟩ := ho1.form; have hf1 := fr_at_none hf1'; have kq1 : Fr No wr q1 := hk0.trans hf1; clear hf1' hn1)
                  | (go_at_call 12; (with_reducible refine (HAS.out _ _ _ _ ho1.rd).mono ?_); rintro e q2 ⟨y2, rfl, ho2, hf2', hn2⟩; obtain ⟨Ay, cy, rfl, hcy, hmy⟩ := ho2.form; have hf2 := fr_at_none hf2'; have kq2 : Fr No wr q2 := kq1.trans hf2; clear hf2' hn2)
                  | (go_at_call 13; (with_reducible refine (HE2.out _ kq2).mono ?_); rintro e q3 ⟨y3, rfl, ho3, hf3', hn3⟩; obtain ⟨Az, cz, rfl, hcz, hmz⟩ := ho3.form; have hf3 := fr_at_none hf3'; have kq3 : Fr No wr q3 := kq2.trans hf3; have ho23 := ho2.fr hf3 (fun _ _ h => h); clear hf3' hn3)
                  | (go_at_call 12; (with_reducible refine (HAS.out _ _ _ _ ho3.rd).mono ?_); rintro e q4 ⟨y4, rfl, ho4, hf4', hn4⟩; obtain ⟨Aw, cw, rfl, hcw, hmw⟩ := ho4.form; have hf4 := fr_at_none hf4'; have kq4 : Fr No wr q4 := kq3.trans hf4; have ho24 := ho23.fr hf4 (fun _ _ h => h); clear hf4' hn4)
                  | (go_at_call 11; (with_reducible refine (HSM.out _ _ _ _ _ _ _ ho24.rd ho4.rd).mono ?_); rintro e q5 ⟨rfl, hf5⟩; have kq5 : Fr No wr q5 := kq4.trans hf5; have HK5 : Hid (Fr No w6 q5) := HFR.out.trans kq5))
              all_goals
                clear ho1 ho2 ho3 ho4 ho23 ho24 hf1 hf2 hf3 hf4 hf5 kq1 kq2 kq3 kq4 kq5 hk0
                go_wp2
                go_roundw
                case rel => exact ⟨i + 1, by omega, by go_num, HK5.out⟩
                case measure => simp [intOf]; omega
            · have hi5 : i = 5 := by omega
              subst hi5
              go_wp2
              go_ret
              exact ⟨rfl, ((HF5.out.trans HFA.out).trans hfr).belowNo⟩
end Go.Proofs.YtlanhclgbkhdlaaGreat
