/- HoldAside's walk. -/
import Derived.Test.YtcgonkcgdenmdaaHoldK0
import Derived.Test.YtcgonkcgdenmdaaChartD
import Derived.Sort.Walk0
namespace Go.Proofs.Ytcgonkcgdenmdaa
open Go.RowKit Go.My Go.Maps Go.BigFrame
set_option linter.unusedSimpArgs false
set_option linter.unusedVariables false
attribute [local go_sem ↓] Go.wp_at_zero Go.wp_at_succ

/-- between the steps -/
def AsRel (w3 : World) (p m ph mh : Nat) (n : Nat) (iv : Value) (wr : World) : Prop :=
  ∃ (i : Nat) (S : List Ac) (H : List Hd), i ≤ n ∧ iv = .int .i64 i ∧ ChS wr p m S ∧ HdS wr ph mh H ∧ St S H ∧ H.length ≤ i ∧ Fr (At2 m mh) w3 wr
/-- a loop that makes memory at most -/
def FkRelH (w7 : World) (n : Nat) (kv : Value) (ws : World) : Prop := ∃ k : Nat, k ≤ n ∧ kv = .int .i64 k ∧ Fr No w7 ws
/-- a sum of a part -/
def FjRelH (w9 : World) (L : List Hd) (sv jv : Value) (ws : World) : Prop := ∃ j : Nat, j ≤ L.length ∧ jv = .int .i64 j ∧ sv = .int .i64 (parH L j) ∧ Fr No w9 ws
theorem rd_noH {a b : World} {F : Nat → Prop} {size n : Nat} {A : Option Addr} {xs : List Value} (h : Rd a F size A n xs) (hs : 0 < size) (hf : Fr No a b) : Rd b F size A n xs := h.fr hs hf fun _ _ _ h => h

set_option maxRecDepth 100000 in
set_option maxHeartbeats 8000000 in
theorem holdAside_walk (A : Option Addr) (c : Nat) (cells : List Value) (l : List OpH) (w : World) (hr : Rd w (Lt w.heap.size) 5 A l.length cells) (hlc : l.length ≤ c) (hcm : c ≤ maxLen) (hE : Each RdOH 5 cells l) :
    Calls Try.prog 3 #[.slice A l.length c] w (RetTrue w) := by
  have HR := Lib.hid hr
  have HEA := Lib.hid hE
  have HCM := Lib.hid hcm
  have HLC := Lib.hid hlc
  clear hr hE hcm hlc
  go_enter Try.func3, Try.ntmps3
  go_wp2_with fail
  refine (lives8 _).mono ?_
  rintro e w1 ⟨rfl, hb1⟩
  go_wp2_with fail
  refine (begin_any _).mono ?_
  rintro e w2 ⟨p, m, q, rfl, hc2, -, hf2, hp2, hm2, -⟩
  go_wp2_with fail
  refine (newH_any _).mono ?_
  rintro e w3 ⟨ph, mh, rfl, hh3, hf3, hp3, hm3⟩
  have hml := hc2.2.lt
  have hmh : mh ≠ m := by omega
  have HC3 := Lib.hid (hc2.no hf3)
  have HH3 := Lib.hid hh3
  have hs1 := hb1.size
  have hs2 := hf2.size
  have HB3 : Hid (Below w.heap.size w w3) := below_fr_no (below_fr_no hb1 hf2 hb1.size) hf3 (by omega)
  have HM : Hid (w.heap.size ≤ m ∧ w.heap.size ≤ mh) := ⟨by omega, by omega⟩
  have HRD := Lib.hid (HR.out.below HB3.out fun _ h => h)
  clear hb1 hc2 hf2 hp2 hm2 hh3 hf3 hp3 hm3 hml hs1 hs2 HR
  obtain ⟨n, hn, hn2, hEA⟩ : ∃ n, n ≤ l.length ∧ n ≤ 120 ∧ ∀ W, Calls Try.prog 10 #[.slice A l.length c] W fun e w' => e = .returned (.slice A n c) ∧ W = w' := ⟨min l.length 120, by omega, by omega, fun W => (earlyH_any _ _ _ _ HLC.out HCM.out).mono fun e w' h => ⟨h.1, h.2.symm⟩⟩
  have HEY := Lib.hid hEA
  clear hEA
  go_wp2_with (go_at_call 10; refine (HEY.out _).mono ?_; rintro e w4 ⟨rfl, rfl⟩)
  go_loopw [6] (fun iv wr => AsRel w3 p m ph mh n iv wr) (fun iv _ => n - (intOf iv).toNat)
  case atStart => exact ⟨0, abcS, [], Nat.zero_le _, rfl, HC3.out, HH3.out, stB, Nat.le_refl _, Fr.refl _ _⟩
  case round =>
    obtain ⟨i, S, H, hi, rfl, hcS, hhS, hst, hHl, hfr⟩ := hrel
    by_cases hlt : i < n
    · have hil : i < l.length := by omega
      have hRw : Rd wr (Lt w.heap.size) 5 A l.length cells := HRD.out.fr (by omega) hfr fun k hk _ hs => by
        have hk' : k < w.heap.size := hk
        have := HM.out
        rcases hs with rfl | rfl <;> omega
      obtain ⟨ad, rfl, had, hok, q0, q1, q2, q3, q4⟩ := scrH_at hRw HEA.out i hil hil
      have HCS := Lib.hid hcS
      have HHS := Lib.hid hhS
      have HST := Lib.hid hst
      have HFR := Lib.hid hfr
      have HOK := Lib.hid hok
      have HHL : Hid (H.length < 1000) := by show _ < _; omega
      have HQ : Hid (∀ W, Fr No wr W → W.cell? (ad.add (i * 5)) = some (.int .i64 l[i].kind) ∧ W.cell? ⟨(ad.add (i * 5)).block, (ad.add (i * 5)).off + 1, none⟩ = some (.int .i64 l[i].num) ∧
          W.cell? ⟨(ad.add (i * 5)).block, (ad.add (i * 5)).off + 2, none⟩ = some (.string l[i].acct) ∧ W.cell? ⟨(ad.add (i * 5)).block, (ad.add (i * 5)).off + 3, none⟩ = some (.string l[i].peer) ∧
          W.cell? ⟨(ad.add (i * 5)).block, (ad.add (i * 5)).off + 4, none⟩ = some (.int .i64 l[i].sum)) := fun W hW =>
        ⟨hW.cell_some q0 (fun h => h), hW.cell_some q1 (fun h => h), hW.cell_some q2 (fun h => h), hW.cell_some q3 (fun h => h), hW.cell_some q4 (fun h => h)⟩
      generalize l[i] = o at *
      have hmw := hcS.2.lt
      have hmw2 := hhS.2.lt
      clear hcS hhS hst hfr hRw had hok q0 q1 q2 q3 q4
      go_wp2_with fail
      (with_reducible refine (all_any p m S _ HCS.out HST.out.kp.inv.nm HST.out.kp.inv.len).mono ?_)
      rintro e w5 ⟨vw, rfl, how, hf5', hn5⟩
      obtain ⟨Aw, cw, rfl, hlw, hcw⟩ := how.form
      have hf5 := fr_at_none hf5'
      go_wp2_with fail
      (with_reducible refine (allH_any ph mh H _ (HHS.out.no hf5) (by have := HHL.out; omega)).mono ?_)
      rintro e w6 ⟨vh, rfl, hoh, hf6', hn6⟩
      obtain ⟨Ah, ch, rfl, hlh, hch⟩ := hoh.form
      have hf6 := hf5.trans (fr_at_none hf6')
      have how6 := how.fr (fr_at_none hf6') (fun _ _ h => h)
      have HN5 : Hid (∀ k, (Value.slice Aw S.length cw).ownBlock = some k → wr.heap.size ≤ k) := fun k hk => newer_none hn5 k hk
      have HOW := Lib.hid how6
      have HF6 := Lib.hid hf6
      have HDO := Lib.hid (doesH_any p m ph mh S H o w6 (HCS.out.no hf6) HST.out (HHS.out.no hf6) HHL.out hmh HOK.out)
      unfold OpH.val at HDO
      obtain ⟨d1, d2, d3⟩ := HST.out.does o HOK.out
      have HERR := Lib.hid d2
      have HST6 := Lib.hid d1
      have HL6 : Hid ((doesHH S H o).length < 1000 ∧ (doesHH S H o).length ≤ i + 1) := ⟨by omega, by omega⟩
      obtain ⟨q0, q1, q2, q3, q4⟩ := HQ.out _ hf6
      clear how how6 hf5' hn5 hf5 hf6' hn6 hf6 hoh d1 d2 d3 HQ
      generalize doesHE S H o = ev at *
      generalize doesHS S H o = S' at *
      generalize doesHH S H o = H' at *
      go_wp2_with fail
      refine HDO.out.mono ?_
      rintro e w7 ⟨rfl, hc7, hh7, hf7⟩
      have HC7 := Lib.hid hc7
      have HH7 := Lib.hid hh7
      have HF7 := Lib.hid hf7
      have HOW7 : Hid (Own w7 42 4 (.slice Aw S.length cw) S.length (acs S)) := HOW.out.fr hf7 (fun k hk h => by
        have h3 := HN5.out k hk
        rcases h with rfl | rfl <;> omega)
      clear hc7 hh7 hf7 HDO q0 q1 q2 q3 q4 HOW
      go_wp2_with fail
      (with_reducible refine (all_any p m S' _ HC7.out HST6.out.kp.inv.nm HST6.out.kp.inv.len).mono ?_)
      rintro e w8 ⟨vn, rfl, hon, hf8', hn8⟩
      obtain ⟨An, cn, rfl, hln, hcn⟩ := hon.form
      have hf8 := fr_at_none hf8'
      have HF8 := Lib.hid hf8
      have HON := Lib.hid hon
      have HOW8 := Lib.hid (HOW7.out.fr hf8 (fun _ _ h => h))
      have HL1 := HST.out.kp.inv.len
      have HL2 := HST6.out.kp.inv.len
      clear hon hf8' hn8 hf8 HOW7
      have hem : ev = 0 ∨ ev ≠ 0 := Decidable.em _
      rcases hem with h0 | h0
      focus
        subst h0
        go_upto_region 14 with (fail)
        have hz : Fr No w8 w8 := Fr.refl _ _
      rotate_left
      focus
        have hSS := HERR.out h0
        have hsm := sameA_any _ _ Aw An cw cn S S' w8 HOW8.out.rd HON.out.rd (by omega)
        rw [decide_eq_true hSS.1.symm] at hsm
        have HSM := Lib.hid hsm
        have hzh : ((H.length : Int) != (H'.length : Int)) = false := by rw [bne_eq_false_iff_eq, hSS.2]
        have hz2 : (ev != 0) = true := by rw [bne_iff_ne]; exact h0
        have HAH := Lib.hid (fun W (hW : Fr No w8 W) => allH_any ph mh H' W ((HH7.out.no HF8.out).no hW) (by have := HL6.out; omega))
        clear h0 hSS hsm
        go_wp2_with fail
        (with_reducible refine HSM.out.mono ?_)
        rintro e w9 ⟨rfl, nq, rfl⟩
        have hq9 : Fr No w8 (w8.drewN nq) := (Fr.refl _ _).drewN _
        go_wp2_with fail
        (with_reducible refine (HAH.out _ hq9).mono ?_)
        rintro e w10 ⟨v10, rfl, ho10, hf10, _⟩
        obtain ⟨A10, c10, rfl, hl10, hc10⟩ := ho10.form
        have hz : Fr No w8 w10 := hq9.trans (fr_at_none hf10)
        clear ho10 hf10 hq9
        go_upto_region 14 with (fail)
      all_goals
        have HZ := Lib.hid hz
        clear hz
        go_wp2
        go_loopw [11] (fun kv ws => FkRelH w8 S'.length kv ws) (fun kv _ => S'.length - (intOf kv).toNat)
        case atStart => exact ⟨0, Nat.zero_le _, rfl, HZ.out⟩
        case round =>
          obtain ⟨k, hk, rfl, hfk⟩ := hrel
          by_cases hkl : k < S'.length
          · obtain ⟨dd, rfl, _, r0, _, r2, _⟩ := acs_at (rd_noH HON.out.rd (by omega) hfk) k hkl
            obtain ⟨s1, s2, s3⟩ := HST6.out.parts (List.getElem_mem hkl)
            have hok6 := HST6.out.kp.inv.ok _ (List.getElem_mem hkl)
            have HOF := Lib.hid (ofH_any ph mh H' ⟨S'[k].name.toArray⟩ _ ((HH7.out.no HF8.out).no hfk) (by have := HL6.out; omega))
            rw [show (⟨S'[k].name.toArray⟩ : ByteArray).data.toList = S'[k].name from rfl] at HOF
            have HPB : Hid (∀ j, 0 ≤ parH (ofH H' S'[k].name) j ∧ parH (ofH H' S'[k].name) j ≤ 9223372036854775807) := fun j => by
              have h1 := parH_bd s1 j
              have h2 := hok6.2.1
              omega
            have HPA : Hid (parH (ofH H' S'[k].name) (ofH H' S'[k].name).length = S'[k].st) := (parH_all _).trans s2
            have HFK := Lib.hid hfk
            clear s1 s2 hok6 hfk
            generalize S'[k] = b at *
            obtain ⟨nb, vb, sb, lb⟩ := b
            simp only at r0 r2 HOF HPB HPA s3
            generalize ofH H' nb = L at *
            go_wp2_with fail
            (with_reducible refine HOF.out.mono ?_)
            rintro e w9 ⟨vl, rfl, hol, hf9, hn9⟩
            obtain ⟨Al, cl, rfl, hll, hcl⟩ := hol.form
            have hf9' := fr_at_none hf9
            have HF9 := Lib.hid hf9'
            have HOL := Lib.hid hol
            have r2' := hf9'.cell_some r2 (fun h => h)
            clear hol hf9 hf9' hn9 r0 r2
            have HR2 := Lib.hid r2'
            clear r2'
            go_wp2
            go_loopw [13, 14] (fun sv jv ws => FjRelH w9 L sv jv ws) (fun _ jv _ => L.length - (intOf jv).toNat)
            case atStart => exact ⟨0, Nat.zero_le _, rfl, rfl, Fr.refl _ _⟩
            case round =>
              obtain ⟨j, hj, rfl, rfl, hfj⟩ := hrel
              by_cases hjl : j < L.length
              · obtain ⟨bd, rfl, _, t0, t1, t2⟩ := hd_at (rd_noH HOL.out.rd (by omega) hfj) j hjl
                have hp0 := HPB.out j
                have hp1 := HPB.out (j + 1)
                have hps := parH_succ L j hjl
                have hw : Hid (wrap64 (parH L j + L[j].sum) = parH L (j + 1)) := by show _ = _; rw [hps]; exact IntWalk.wrap64_in _ ⟨by omega, by omega⟩
                generalize L[j].sum = x at *
                clear hp0 hp1 hps
                go_wp2
                rw [hw.out]
                go_roundw
                case rel => exact ⟨j + 1, by omega, by go_num, rfl, hfj⟩
                case measure => simp [intOf]; omega
              · obtain rfl : j = L.length := by omega
                have r2 := hfj.cell_some HR2.out (fun h => h)
                have h8 : ¬ (8 < (L.length : Int)) := by omega
                rw [HPA.out]
                go_wp2
                go_roundw
                case rel => exact ⟨k + 1, by omega, by go_num, (HFK.out.trans HF9.out).trans hfj⟩
                case measure => simp [intOf]; omega
          · obtain rfl : k = S'.length := by omega
            have hfk2 := HF8.out.trans hfk
            go_wp2
            go_roundw
            case rel => exact ⟨i + 1, S', H', by omega, by go_num, HC7.out.no hfk2, HH7.out.no hfk2, HST6.out, HL6.out.2, ((HFR.out.trans (no2 HF6.out)).trans HF7.out).trans (no2 hfk2)⟩
            case measure => simp [intOf]; omega
    · obtain rfl : i = n := by omega
      go_wp2
      go_ret
      exact ⟨rfl, below_fr HB3.out hfr HB3.out.size (fun k hk => by have := HM.out; rcases hk with rfl | rfl <;> omega)⟩
end Go.Proofs.Ytcgonkcgdenmdaa
