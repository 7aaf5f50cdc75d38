/- ChartApart's walk. -/
import Derived.Test.YtneelnfcjmbboaaChartD
import Derived.Test.YtneelnfcjmbboaaChartE
import Derived.Test.YtneelnfcjmbboaaChartB
namespace Go.Proofs.Ytneelnfcjmbboaa
open Go.RowKit Go.My Go.Maps
set_option linter.unusedSimpArgs false
set_option linter.unusedVariables false
attribute [local go_sem ↓] Go.wp_at_zero Go.wp_at_succ

/-- between the steps: the charts hold S, T -/
def ApRel (w2 : World) (p m p2 m2 : Nat) (n : Nat) (iv : Value) (wr : World) : Prop :=
  ∃ (i : Nat) (S T : List Ac), i ≤ n ∧ iv = .int .i64 i ∧ ChS wr p m S ∧ ChS wr p2 m2 T ∧ Inv S ∧ Inv T ∧ OneS [97] T ∧ getA S [97] = getA T [97] ∧ Fr (fun k => k = m ∨ k = m2) w2 wr

/-- loops that only read -/
def QuRel (w7 : World) (n : Nat) (iv : Value) (wr : World) : Prop := ∃ k j : Nat, k ≤ n ∧ iv = .int .i64 k ∧ wr = w7.drewN j

set_option maxRecDepth 100000 in
set_option maxHeartbeats 4000000 in
theorem chartApart_walk (A : Option Addr) (c : Nat) (cells : List Value) (l : List OpC) (w : World) (hr : Rd w (Lt w.heap.size) 3 A l.length cells) (hlc : l.length ≤ c) (hcm : c ≤ maxLen) (hE : Each RdC 3 cells l) :
    Calls Try.prog 7 #[.slice A l.length c] w (RetTrue w) := by
  have HR := Lib.hid hr
  have HEA := Lib.hid hE
  have HCM := Lib.hid hcm
  have HLC := Lib.hid hlc
  clear hr hE hcm hlc
  go_enter Try.func7, Try.ntmps7
  go_wp2_with fail
  refine (livesH _).mono ?_
  rintro e w1 ⟨rfl, hb1⟩
  go_wp2_with fail
  refine (new_any w1).mono ?_
  rintro e w3 ⟨p, m, rfl, hc1, hf1, hp1, hm1⟩
  go_wp2_with fail
  refine (new_any w3).mono ?_
  rintro e w2 ⟨p2, m2, rfl, hc2, hf2, hp2, hm2⟩
  have hmm : m ≠ m2 := by have := hc1.2.lt; omega
  have hB2 : Below w.heap.size w w2 := below_fr_no (below_fr_no hb1 hf1 hb1.size) hf2 (by have := hb1.size; have := hf1.size; omega)
  have hc1' := hc1.no hf2
  have hs1 := hb1.size
  have hs2 := hf1.size
  have hm1' : w.heap.size ≤ m := by omega
  have hm2' : w.heap.size ≤ m2 := by omega
  have HRD := Lib.hid (HR.out.below hB2 fun _ h => h)
  have HB2 := Lib.hid hB2
  have HC1 := Lib.hid hc1'
  have HC2 := Lib.hid hc2
  clear hc1 hc2 hf1 hf2 hp1 hp2 hm1 hm2 hb1 hs1 hs2 hB2 hc1' HR
  obtain ⟨n, hn, hEA⟩ : ∃ n, n ≤ l.length ∧ ∀ W, Calls Try.prog 10 #[.slice A l.length c] W fun e w' => e = .returned (.slice A n c) ∧ W = w' := ⟨min l.length 150, by omega, fun W => early5_any _ _ _ _ HLC.out HCM.out⟩
  have HEY := Lib.hid hEA
  clear hEA
  go_wp2_with (go_at_call 10; refine (HEY.out _).mono ?_; rintro e w4 ⟨rfl, rfl⟩)
  go_loopw [5] (fun iv wr => ApRel w2 p m p2 m2 n iv wr) (fun iv _ => n - (intOf iv).toNat)
  case atStart => exact ⟨0, [], [], Nat.zero_le _, rfl, HC1.out, HC2.out, Inv.nil, Inv.nil, fun _ h => (nomatch h), rfl, Fr.refl _ _⟩
  case round =>
    obtain ⟨i, S, T, hi, rfl, hcS, hcT, hIS, hIT, hone, hget, hfr⟩ := hrel
    by_cases hlt : i < n
    · have hil : i < l.length := by omega
      have hRw : Rd wr (Lt w.heap.size) 3 A l.length cells := HRD.out.fr (by omega) hfr fun k hk _ hs => by
        have hk' : k < w.heap.size := hk
        rcases hs with rfl | rfl <;> omega
      obtain ⟨ad, rfl, had, hok, q0, q1, q2⟩ := scr_at hRw HEA.out i hil hil
      have HCS := Lib.hid hcS
      have HCT := Lib.hid hcT
      have HIS := Lib.hid hIS
      have HIT := Lib.hid hIT
      have HONE := Lib.hid hone
      have HGET := Lib.hid hget
      have HFR := Lib.hid hfr
      have HOK := Lib.hid hok
      generalize l[i] = o at *
      clear hcS hcT hIS hIT hone hget hfr hRw had hok
      have hbx := Blk.new wr 34 #[.int .i64 o.kind, .string o.name, .int .i64 o.x]
      have hfx : Fr No wr (wr.alloc (.cells #[.int .i64 o.kind, .string o.name, .int .i64 o.x] 34)) := (Fr.refl _ _).alloc _
      go_upto_region 10 with (go_at_call 16; (with_reducible refine (all_any p m S _ (HCS.out.no ((Fr.refl _ _).alloc _)) HIS.out.nm HIS.out.len).mono ?_); rintro e w5 ⟨vw, rfl, how, hf5', hn5⟩)
      obtain ⟨Aw, cw, rfl, hlw, hcw⟩ := how.form
      have hf5 := fr_at_none hf5'
      have hfx5 := hfx.trans hf5
      have hbx5 := hbx.fr hf5 (fun h => h)
      have x0 := hbx5.cell 0
      have x1 := hbx5.cell 1
      have x2 := hbx5.cell 2
      simp only [List.getElem?_toArray, List.getElem?_cons_zero, List.getElem?_cons_succ] at x0 x1 x2
      have hsz5 : wr.heap.size < w5.heap.size := hbx5.lt
      have HOW := Lib.hid how
      have HBX5 := Lib.hid hbx5
      have HFX5 := Lib.hid hfx5
      have HN5 : Hid (∀ k, (Value.slice Aw S.length cw).ownBlock = some k → wr.heap.size ≤ k) := fun k hk => by
        have := newer_none hn5 k hk
        rw [World.size_alloc] at this
        omega
      have hDO := does_any p m S o w5 (HCS.out.no hfx5) HIS.out HOK.out
      have HDO := Lib.hid hDO
      clear hDO how hf5' hn5 hf5 hfx5 hbx5 hbx hfx q0 q1 q2
      generalize hEv : doesE S o = ev at *
      generalize hS' : doesS S o = S' at *
      have HEV := Lib.hid hEv
      have HSV := Lib.hid hS'
      clear hEv hS'
      go_wp2_with fail
      refine HDO.out.mono ?_
      rintro e w6 ⟨rfl, hc6, hf6⟩
      have hI6 : Inv S' := by rw [← HSV.out]; exact inv_does HIS.out o HOK.out
      go_upto_region 12 with (go_at_call 16; (with_reducible refine (all_any p m S' _ hc6 hI6.nm hI6.len).mono ?_); rintro e w7 ⟨vn, rfl, hon, hf7', hn7⟩)
      obtain ⟨An, cn, rfl, hln, hcn⟩ := hon.form
      have hf7 := fr_at_none hf7'
      have hf67 : Fr (At1 m) w5 w7 := hf6.trans (hf7.mono fun _ _ h => False.elim h)
      have hmw : m < wr.heap.size := HCS.out.2.lt
      have hbx7 := HBX5.out.fr hf67 (fun h => by have : wr.heap.size = m := h; omega)
      have hrs : Rd w7 (fun k => (Value.slice Aw S.length cw).ownBlock = some k) 4 Aw S.length (acs S) := (HOW.out.fr hf67 (fun k hk h => by
        have h1 := HN5.out k hk
        have : k = m := h
        omega)).rd
      have HRS := Lib.hid hrs
      have HRN := Lib.hid hon.rd
      have y1 := hbx7.cell 1
      simp only [List.getElem?_toArray, List.getElem?_cons_zero, List.getElem?_cons_succ] at y1
      have HL1 := HIS.out.len
      have HL2 := hI6.len
      have HC6 := Lib.hid hc6
      have HC7 := Lib.hid (hc6.no hf7)
      have HI6 := Lib.hid hI6
      have HON := Lib.hid hon
      have HF67 := Lib.hid hf67
      have HF7 := Lib.hid hf7
      have HBX7 := Lib.hid hbx7
      clear x0 x1 x2 hf67 hrs hon hc6 hI6 hf6 hf7 hbx7 hf7' hn7
      go_wp2
      go_loopw [10] (fun kv ws => QuRel w7 S'.length kv ws) (fun kv _ => S'.length - (intOf kv).toNat)
      case atStart => exact ⟨0, 0, Nat.zero_le _, rfl, rfl⟩
      case round =>
        obtain ⟨k, j0, hk, rfl, rfl⟩ := hrel
        by_cases hkl : k < S'.length
        · go_wp2
          go_loopw [11] (fun jv ws => QuRel w7 S.length jv ws) (fun jv _ => S.length - (intOf jv).toNat)
          case atStart => exact ⟨0, j0, Nat.zero_le _, rfl, rfl⟩
          case round =>
            obtain ⟨q, j1, hq, rfl, rfl⟩ := hrel
            by_cases hql : q < S.length
            · obtain ⟨bd, rfl, _, p0, p1, p2, p3⟩ := acs_at HRS.out q hql
              obtain ⟨dd, rfl, _, r0, r1, r2, r3⟩ := acs_at HRN.out k hkl
              have HAP : Hid (S[q].name = S'[k].name → S'[k].name ≠ o.name.data.toList → S[q] = S'[k]) := fun h1 h2 => by
                have e1 := HSV.out
                subst e1
                exact apart_at HCS.out.2.2 HC6.out.2.2 (List.getElem_mem hql) (List.getElem_mem hkl) h1 h2
              generalize S[q] = a at *
              generalize S'[k] = b at *
              obtain ⟨na, va, sa, la⟩ := a
              obtain ⟨nb, vb, sb, lb⟩ := b
              simp only at p0 p1 p2 p3 r0 r1 r2 r3
              by_cases hn1 : na = nb
              · subst hn1
                obtain ⟨lo, hlo, hlo2⟩ : ∃ lo : List UInt8, o.name = ⟨lo.toArray⟩ ∧ o.name.data.toList = lo := ⟨o.name.data.toList, by simp, rfl⟩
                have y1' : w7.cell? ⟨wr.heap.size, 1, none⟩ = some (.string ⟨lo.toArray⟩) := by rw [y1, hlo]
                rw [hlo2] at HAP
                clear y1
                by_cases hn2 : na = lo
                · subst hn2
                  clear HAP hlo hlo2
                  go_wp2
                  go_quiet (fail)
                  go_wp2
                  go_roundw
                  case rel => exact ⟨q + 1, _, by omega, by go_num, rfl⟩
                  case measure => simp [intOf]; omega
                · have h1 := HAP.out rfl hn2
                  injection h1 with _ h2 h3 h4
                  subst h2 h3 h4
                  have hz : (na == lo) = false := beq_eq_false_iff_ne.2 hn2
                  have hz2 : ((⟨na.toArray⟩ : ByteArray).toList == (⟨lo.toArray⟩ : ByteArray).toList) = false := by rw [ByteArray.toList_eq, ByteArray.toList_eq]; exact hz
                  have hz3 : (na != lo) = true := by rw [bne_iff_ne]; exact hn2
                  clear HAP hlo hlo2 hn2
                  go_wp2
                  go_quiet (fail)
                  go_wp2
                  go_roundw
                  case rel => exact ⟨q + 1, _, by omega, by go_num, rfl⟩
                  case measure => simp [intOf]; omega
              · have hz : (na == nb) = false := beq_eq_false_iff_ne.2 hn1
                have hz2 : ((⟨na.toArray⟩ : ByteArray).toList == (⟨nb.toArray⟩ : ByteArray).toList) = false := by rw [ByteArray.toList_eq, ByteArray.toList_eq]; exact hz
                clear HAP hn1
                go_wp2
                go_quiet (fail)
                go_wp2
                go_roundw
                case rel => exact ⟨q + 1, _, by omega, by go_num, rfl⟩
                case measure => simp [intOf]; omega
            · have : q = S.length := by omega
              subst this
              go_wp2
              go_roundw
              case rel => exact ⟨k + 1, _, by omega, by go_num, rfl⟩
              case measure => simp [intOf]; omega
        · have : k = S'.length := by omega
          subst this
          have hpm : m ≠ p2 := HCS.out.2.ne_ HCT.out.1
          have hi63 : (i : Int) + 1 ≤ 9223372036854775807 := by
            have h1 := HCM.out
            have h2 := HLC.out
            unfold maxLen at h1
            omega
          have hT7 : ChS (w7.drewN j0) p2 m2 T := ((HCT.out.no HFX5.out).fr HF67.out (fun h => hpm h.symm) (fun h => hmm h.symm)).no ((Fr.refl _ _).drewN _)
          have hS7 : ChS (w7.drewN j0) p m S' := HC7.out.no ((Fr.refl _ _).drewN _)
          have hF7 : Fr (fun k => k = m ∨ k = m2) w2 (w7.drewN j0) := ((HFR.out.trans (HFX5.out.mono fun _ _ h => False.elim h)).trans (HF67.out.mono fun _ _ h => Or.inl h)).drewN _
          have HT7 := Lib.hid hT7
          have HS7 := Lib.hid hS7
          have HF8 := Lib.hid hF7
          have hbx8 := HBX7.out
          have y0 := hbx8.cell 0
          have y2 := hbx8.cell 2
          simp only [List.getElem?_toArray, List.getElem?_cons_zero, List.getElem?_cons_succ] at y0 y2
          clear hT7 hS7 hF7 hbx8 HRS HRN HON
          by_cases hna : o.name = ⟨#[97]⟩
          · have hnl : o.name.data.toList = [97] := by rw [hna]
            by_cases h5 : ev = 5
            · subst h5
              rw [hna] at y1
              have HBE : Hid (Below w.heap.size w (w7.drewN j0)) := below_fr HB2.out HF8.out HB2.out.size (fun k hk => by rcases hk with rfl | rfl <;> omega)
              clear hna hnl
              go_wp2
              go_ret
              exact ⟨rfl, HBE.out⟩
            · have hds := does_same S T o (by rw [hnl]; exact HGET.out) (by rw [HEV.out]; exact h5) (.inl (by have := one_len HONE.out HIT.out.rise; omega))
              have hone' := one_does (o := o) (T := T) (by rw [hnl]; exact HONE.out)
              rw [hnl] at hds hone'
              rw [HEV.out, HSV.out] at hds
              have hD := does_any p2 m2 T o (w7.drewN j0) HT7.out HIT.out HOK.out
              have hIT' := inv_does HIT.out o HOK.out
              rw [hds.1] at hD
              have HD := Lib.hid hD
              have HDS := Lib.hid hds.2
              have HON1 := Lib.hid hone'
              have HIT1 := Lib.hid hIT'
              have hz1 : (ev == 5) = false := beq_eq_false_iff_ne.2 h5
              have hz2 : (ev != 5) = true := by rw [bne_iff_ne]; exact h5
              rw [hna] at y1
              have HNA := Lib.hid hna
              unfold OpC.val at HD
              rw [hna] at HD
              clear hds hone' hD hIT' h5 hna hnl
              go_wp2_with (go_at_call 11; (with_reducible refine HD.out.mono ?_); rintro e w8 ⟨rfl, hc8, hf8⟩)
              go_roundw
              case rel => exact ⟨i + 1, S', _, by omega, by go_num, HS7.out.fr hf8 (fun h => HT7.out.2.ne_ HS7.out.1 h.symm) (fun h => hmm h), hc8, HI6.out, HIT1.out, HON1.out, HDS.out.symm, HF8.out.trans (hf8.mono fun _ _ h => Or.inr h)⟩
              case measure => simp [intOf]; omega
          · obtain ⟨lo, hlo, hlo2⟩ : ∃ lo : List UInt8, o.name = ⟨lo.toArray⟩ ∧ o.name.data.toList = lo := ⟨o.name.data.toList, by simp, rfl⟩
            have hne : lo ≠ [97] := fun h => hna (by rw [hlo, h])
            have hget' : getA S' [97] = getA T [97] := by
              rw [← HSV.out, getA_does_other S o [97] (by rw [hlo2]; exact fun h => hne h.symm)]
              exact HGET.out
            have HG2 := Lib.hid hget'
            have y1' : w7.cell? ⟨wr.heap.size, 1, none⟩ = some (.string ⟨lo.toArray⟩) := by rw [y1, hlo]
            have hz : (lo == [97]) = false := beq_eq_false_iff_ne.2 hne
            have hz2 : ((⟨lo.toArray⟩ : ByteArray).toList == [97]) = false := by rw [ByteArray.toList_eq]; exact hz
            have hz3 : ((⟨lo.toArray⟩ : ByteArray).toList == (⟨#[97]⟩ : ByteArray).toList) = false := by rw [ByteArray.toList_eq, ByteArray.toList_eq]; exact hz
            clear y1 hna hlo hlo2 hne hget'
            by_cases h5 : ev = 5
            · subst h5
              go_wp2
              go_roundw
              case rel => exact ⟨i + 1, S', T, by omega, by go_num, HS7.out, HT7.out, HI6.out, HIT.out, HONE.out, HG2.out, HF8.out⟩
              case measure => simp [intOf]; omega
            · have hz5 : (ev == 5) = false := beq_eq_false_iff_ne.2 h5
              have hz6 : (ev != 5) = true := by rw [bne_iff_ne]; exact h5
              clear h5
              go_wp2
              go_roundw
              case rel => exact ⟨i + 1, S', T, by omega, by go_num, HS7.out, HT7.out, HI6.out, HIT.out, HONE.out, HG2.out, HF8.out⟩
              case measure => simp [intOf]; omega
    · obtain rfl : i = n := by omega
      have hBw : Below w.heap.size w wr := below_fr HB2.out hfr HB2.out.size (fun k hk => by rcases hk with rfl | rfl <;> omega)
      have HV : Hid (getV S [97] = getV T [97] ∧ (getA S [97]).isSome = (getA T [97]).isSome) := by
        unfold getV
        rw [hget]
        exact ⟨rfl, rfl⟩
      have hG1 := get_any p m S ⟨#[97]⟩ wr hcS (by decide) hIS.len
      have hG2 : ∀ W, ChS W p2 m2 T → Calls Try.prog 22 #[.pointer (some ⟨p2, 0, none⟩), .string ⟨#[97]⟩] W (GotC p2 m2 T [97] W) := fun W hW => get_any p2 m2 T ⟨#[97]⟩ W hW (by decide) hIT.len
      have hpm : m ≠ p2 := hcS.2.ne_ hcT.1
      have HG1 := Lib.hid hG1
      have HG2 := Lib.hid hG2
      have HCT := Lib.hid hcT
      have HBW := Lib.hid hBw
      clear hG1 hG2 hcS hcT hIS hIT hone hget hfr hBw
      go_wp2_with fail
      refine HG1.out.mono ?_
      rintro e w8 ⟨rfl, hc8, hf8⟩
      have hT8 : ChS w8 p2 m2 T := HCT.out.fr hf8 (fun h => hpm h.symm) (fun h => hmm h.symm)
      have hml8 := hT8.2.lt
      have hv := HV.out
      generalize getV S [97] = V at *
      generalize (getA S [97]).isSome = bS at *
      obtain ⟨nV, hV, sV, lV⟩ := V
      unfold Ac.val
      simp only
      have HG3 : Hid (∀ W, ChS W p2 m2 T → Calls Try.prog 22 #[.pointer (some ⟨p2, 0, none⟩), .string ⟨#[97]⟩] W fun e w' => e = .returned (.tuple #[.agg #[.string ⟨nV.toArray⟩, .int .i64 hV, .int .i64 sV, .int .i64 lV], .int .i64 (if bS then 0 else 6)]) ∧ Fr (At1 m2) W w') := fun W hW => (HG2.out W hW).mono fun e w' h => ⟨by rw [h.1, ← hv.1, ← hv.2]; rfl, h.2.2⟩
      have HT8 := Lib.hid hT8
      clear HG1 HG2 HV hv hT8 hc8
      generalize (if bS = true then (0 : Int) else 6) = ec at *
      go_wp2_with fail
      have hb9 := Blk.new w8 43 #[.string ⟨nV.toArray⟩, .int .i64 hV, .int .i64 sV, .int .i64 lV]
      refine (HG3.out _ (HT8.out.no ((Fr.refl _ _).alloc _))).mono ?_
      rintro e w9 ⟨rfl, hf9⟩
      have hb9' : AcB w9 w8.heap.size ⟨nV, hV, sV, lV⟩ := hb9.fr hf9 (fun h => by have : w8.heap.size = m2 := h; omega)
      obtain ⟨c0, c1, c2, c3⟩ := acb_cells hb9'
      have hl9 := hb9'.lt
      go_wp2
      go_ret
      have e1 := below_fr HBW.out hf8 HBW.out.size (fun k hk => by have : k = m := hk; omega)
      have e2 : ∀ o : Obj, Fr (At1 m2) w8 (w9.alloc o) := fun o => (((Fr.refl (At1 m2) w8).alloc _).trans hf9).alloc _
      exact ⟨rfl, below_fr e1 (e2 _) e1.size (fun k hk => by have : k = m2 := hk; omega)⟩
end Go.Proofs.Ytneelnfcjmbboaa
