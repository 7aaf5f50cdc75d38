/- The law's walk RatioMean. -/
import Derived.Test.YtdmjnheohjegdaaDoorFlA
namespace Go.Proofs.YtdmjnheohjegdaaDoor
open Go.RowKit Go.My Go.My.Fl
set_option linter.unusedSimpArgs false
set_option linter.unusedVariables false

def wOf (b : Int) : Int := 1 + wrap64 ((IntKind.u64.wrap b).tmod 100)
theorem wOf_bd (b : Int) : 1 ≤ wOf b ∧ wOf b ≤ 100 := by
  obtain ⟨m, hm, hml⟩ := umod b 100 (by omega) (by omega)
  have e : (IntKind.u64.wrap b).tmod ((100 : Nat) : Int) = (IntKind.u64.wrap b).tmod 100 := rfl
  rw [e] at hm
  unfold wOf
  rw [hm]
  clear hm e
  omega
theorem wOf_wrap (b : Int) : wrap64 (1 + wrap64 ((IntKind.u64.wrap b).tmod 100)) = wOf b := by
  have h := wOf_bd b
  show wrap64 (wOf b) = wOf b
  generalize wOf b = x at *
  rw [wrap64_eq]; omega
def prs (l ws : List Int) : List (Int × Int) := List.zipWith (fun a b => (a.tmod 1073741824, wOf b)) (l.take 100) ws
theorem prs_length (l ws : List Int) : (prs l ws).length = min (min 100 l.length) ws.length := by
  unfold prs; rw [List.length_zipWith, List.length_take]
theorem prs_get (l ws : List Int) (k : Nat) (h : k < (prs l ws).length) (h1 : k < l.length) (h2 : k < ws.length) : (prs l ws)[k] = (l[k].tmod 1073741824, wOf ws[k]) := by
  revert h; unfold prs; intro h; rw [List.getElem_zipWith, List.getElem_take]
theorem prs_ok (l ws : List Int) : MnOk (prs l ws) := by
  intro p hp
  obtain ⟨k, hk, rfl⟩ := List.mem_iff_getElem.1 hp
  have hl := prs_length l ws
  rw [prs_get l ws k hk (by omega) (by omega)]
  have hb := wOf_bd ws[k]
  refine ⟨?_, hb⟩
  show (l[k].tmod 1073741824).natAbs ≤ _
  rw [Int.natAbs_tmod]
  have := Nat.mod_lt l[k].natAbs (show 0 < (1073741824 : Int).natAbs by decide)
  have e : (1073741824 : Int).natAbs = 1073741824 := rfl
  omega
theorem own_apart {w : World} {e f : TypeId} {u v : Value} {n m : Nat} {xs ys : List Value} {s t : Nat} (h : Own w e s u n xs) (k : Own w f t v m ys) (hne : e ≠ f) : ∀ i, u.ownBlock = some i → v.ownBlock ≠ some i := fun i hi hv => by
  obtain ⟨cur, hc⟩ := k.blk i hv
  exact h.ne_ hc hne hi

def MnRel (w : World) (z : List (Int × Int)) (sv tv lv hv iv : Value) (wr : World) : Prop :=
  ∃ k : Nat, k ≤ z.length ∧ iv = .int .i64 k ∧ Own wr 2 1 sv k (is_ ((z.take k).map fun p => p.1)) ∧ Own wr 22 1 tv k (fs_ ((z.take k).map fun p => p.2)) ∧
    (∃ lo hi : Int, lv = .int .i64 lo ∧ hv = .int .i64 hi ∧ lo.natAbs ≤ 1099511627776 ∧ hi.natAbs ≤ 1099511627776 ∧ ∀ p ∈ z.take k, lo ≤ p.1 ∧ p.1 ≤ hi) ∧ Fr No w wr ∧ Newer w.heap.size none sv.ownBlock ∧ Newer w.heap.size none tv.ownBlock

set_option maxHeartbeats 1000000 in
theorem ratioMean_walk (A : Option Addr) (c : Nat) (l : List Int) (B : Option Addr) (d : Nat) (ws : List Int) (w : World) (hr : Rd w (Lt w.heap.size) 1 A l.length (is_ l)) (hlc : l.length ≤ c) (hcm : c ≤ maxLen) (hI : ∀ x ∈ l, In64 x)
    (hr2 : Rd w (Lt w.heap.size) 1 B ws.length (is_ ws)) (hld : ws.length ≤ d) (hdm : d ≤ maxLen) (hI2 : ∀ x ∈ ws, In64 x) (ht : Tab w) :
    Calls Tryd.prog 7 #[.slice A l.length c, .slice B ws.length d] w (RetTrue w) := by
  have HT := Lib.hid ht
  have HL := Lib.hid fun W h => lives19 W h
  have HR := Lib.hid hr
  have HR2 := Lib.hid hr2
  have HEA := Lib.hid fun W => early19_any A c l.length W hlc hcm
  have hzl := prs_length l ws
  have hok := Lib.hid (prs_ok l ws)
  have HG := Lib.hid fun k h h1 h2 => prs_get l ws k h h1 h2
  generalize prs l ws = z at *
  clear hr ht hI hcm hlc hr2 hld hdm hI2
  go_enter Tryd.func7, Tryd.ntmps7
  go_wp2_with fail
  refine (HL.out _ HT.out).mono ?_
  rintro e w1 ⟨rfl, hw1⟩
  go_wp2_with fail
  refine (HEA.out _).mono ?_
  rintro e w2 ⟨rfl, rfl⟩
  have HW1 := Lib.hid hw1
  clear hw1 HL HT HEA
  go_wp2
  go_loopw [5, 6, 7, 8, 9] (fun sv tv lv hv iv wr => MnRel w2 z sv tv lv hv iv wr) (fun _ _ _ _ iv _ => z.length - (intOf iv).toNat)
  case atStart => exact ⟨0, Nat.zero_le _, rfl, Own.nil _ _ _, Own.nil _ _ _, ⟨1099511627776, -1099511627776, rfl, rfl, by decide, by decide, fun p hp => by simp at hp⟩, Fr.refl _ _, .inl rfl, .inl rfl⟩
  case round =>
    obtain ⟨k, hk, rfl, ho1, ho2, ⟨lo, hi, rfl, rfl, hlo, hhi, hall⟩, hfr, hn1, hn2⟩ := hrel
    by_cases hlt : k < z.length
    · have hk1 : k < l.length := by omega
      have hk2 : k < ws.length := by omega
      have hk3 : k < 100 := by omega
      obtain ⟨ad, u, rfl, _, hx, hc⟩ := (HR.out.below (HW1.out.trans hfr).belowNo fun _ h => h).at_ hk1
      rw [is_get l k hk1] at hx
      injection hx with hx
      subst hx
      obtain ⟨bd, u, rfl, hbd, hx, hc2⟩ := (HR2.out.below (HW1.out.trans hfr).belowNo fun _ h => h).at_ hk2
      rw [is_get ws k hk2] at hx
      injection hx with hx
      subst hx
      have hg := HG.out k hlt hk1 hk2
      have hmem := hok.out _ (List.getElem_mem hlt)
      have HE : Hid (is_ ((z.take (k + 1)).map fun p => p.1) = is_ ((z.take k).map fun p => p.1) ++ [.int .i64 (l[k].tmod 1073741824)]) := Lib.hid (by
        rw [List.take_succ_eq_append_getElem hlt, List.map_append, is_append, hg]; rfl)
      have HE2 : Hid (fs_ ((z.take (k + 1)).map fun p => p.2) = fs_ ((z.take k).map fun p => p.2) ++ [.float .f64 (FloatKind.f64.nearest (wOf ws[k]))]) := Lib.hid (by
        rw [List.take_succ_eq_append_getElem hlt, List.map_append, fs_append, hg]; rfl)
      have HALL : Hid (∀ p ∈ z.take (k + 1), min lo (l[k].tmod 1073741824) ≤ p.1 ∧ p.1 ≤ max hi (l[k].tmod 1073741824)) := Lib.hid (by
        intro p hp
        rw [List.take_succ_eq_append_getElem hlt] at hp
        rcases List.mem_append.1 hp with h | h
        · have := hall p h; omega
        · rw [List.mem_singleton.1 h, hg]
          show _ ≤ l[k].tmod 1073741824 ∧ l[k].tmod 1073741824 ≤ _
          generalize l[k].tmod 1073741824 = x
          omega)
      rw [hg] at hmem
      have HB : Hid ((min lo (l[k].tmod 1073741824)).natAbs ≤ 1099511627776 ∧ (max hi (l[k].tmod 1073741824)).natAbs ≤ 1099511627776) := Lib.hid (by
        have h1 : (l[k].tmod 1073741824).natAbs ≤ 1073741824 := hmem.1
        generalize l[k].tmod 1073741824 = x at *
        omega)
      have hX : Hid (k + 1 ≤ maxLen ∧ (k + 1) * 8 ≤ 140737488355328) := by
        refine ⟨?_, ?_⟩ <;> (try simp only [maxLen]) <;> omega
      have q1 : (k : Int) < (min l.length 100 : Nat) := by omega
      have q2 : (k : Int) < (ws.length : Int) := by omega
      have q3 := wOf_wrap ws[k]
      have q4 := fun W => near_factN' (wOf ws[k]) W
      have HBD : bd.block < w.heap.size := hbd
      clear hg hmem
      generalize hxx : l[k].tmod 1073741824 = x at *
      generalize l[k] = a at *
      generalize ws[k] = b at *
      generalize wOf b = y at *
      have HO1 := Lib.hid ho1
      have HO2 := Lib.hid ho2
      clear ho1 ho2
      have hAP := own_apart HO2.out HO1.out (by decide)
      have HAP := Lib.hid hAP
      clear hAP
      go_wp2_with (at_builtin; first
        | (refine wpList_app _ rfl (.tmp 34) (.tmp 36) 33 33 rfl elI (HO1.out.alloc _) rfl (Src.of_new wr.heap.size (heap_alloc_new wr _) Tryd.underlying33 rfl (by simp [Value.oneCell'])) rfl hX.out.1 hX.out.2 ?_
           intro v1 w3 hown3 hfr3 hnew3
           have HF3 := Lib.hid (fr_no (hfr.alloc _) hn1 hfr3)
           have hc3 : w3.cell? (bd.add k) = some (.int .i64 b) := by
             rw [(HW1.out.trans HF3.out).cell (by rw [block_of_add]; exact HBD) (fun h => h), ← (HW1.out.trans hfr).cell (by rw [block_of_add]; exact HBD) (fun h => h)]
             exact hc2
           have HO4 := Lib.hid ((HO2.out.alloc (.cells #[.int .i64 x] 2)).fr hfr3 HAP.out)
           have HO3 := Lib.hid hown3
           have HN3 := Lib.hid hnew3
           clear hown3 hfr3 hnew3)
        | (refine wpList_app _ rfl (.tmp 38) (.tmp 48) 40 40 rfl elF (HO4.out.alloc _) rfl (Src.of_new w3.heap.size (heap_alloc_new w3 _) Tryd.underlying40 rfl (by simp [Value.oneCell'])) rfl hX.out.1 hX.out.2 ?_
           intro v2 w5 hown5 hfr5 hnew5
           have HO6 := Lib.hid ((HO3.out.alloc (.cells #[.float .f64 (FloatKind.f64.nearest y)] 22)).fr hfr5 (own_apart HO3.out HO4.out (by decide)))
           have HF5 := Lib.hid (fr_no (HF3.out.alloc _) hn2 hfr5)
           have HO5 := Lib.hid hown5
           have HN5 := Lib.hid hnew5
           clear hown5 hfr5 hnew5))
      refine ⟨⟨k + 1, by omega, by go_num, ?_, ?_, ⟨min lo x, max hi x, rfl, rfl, HB.out.1, HB.out.2, HALL.out⟩, HF5.out, ?_, ?_⟩, by simp [intOf]; omega⟩
      · rw [HE.out]; exact HO6.out
      · rw [HE2.out]; exact HO5.out
      · exact hn1.trans (Newer.of HN3.out) (by have := hfr.size; simp; omega)
      · exact hn2.trans (Newer.of HN5.out) (by have := HF3.out.size; simp; omega)
    · have hkz : k = z.length := by omega
      rw [hkz] at ho1 ho2 hall
      rw [List.take_length] at ho1 ho2 hall
      obtain ⟨A1, c1, rfl, _, _⟩ := ho1.form
      obtain ⟨B1, d1, rfl, _, _⟩ := ho2.form
      have hcd : Hid (¬ (k : Int) < (min l.length 100 : Nat) ∨ ((k : Int) < (min l.length 100 : Nat) ∧ ¬ (k : Int) < (ws.length : Int))) := by
        show _ ∨ _
        by_cases h1 : k < min l.length 100
        · exact .inr ⟨by omega, by omega⟩
        · exact .inl (by omega)
      have HFR := Lib.hid (HW1.out.trans hfr)
      by_cases h0 : z.length = 0
      · rw [h0] at ho1 ho2
        have HM := Lib.hid (mean_nil A1 B1 c1 d1 wr)
        have k0 : k = 0 := by omega
        subst k0
        have g1 := eq_fl fl_zero fl_zero
        rw [decide_eq_true rfl] at g1
        simp only [h0] at *
        clear ho1 ho2 hall hfr hn1 hn2 HG hzl hok HR HR2
        rcases hcd.out with c1 | ⟨c1, c2⟩
        all_goals
          go_wp2_with fail
          refine HM.out.mono ?_
          rintro e w5 ⟨rfl, hw5⟩
          go_wp2
          go_ret
          exact ⟨rfl, (HFR.out.trans hw5).belowNo⟩
      · have hzn : z ≠ [] := fun h => h0 (by rw [h]; rfl)
        have HM := Lib.hid (mean_any _ _ A1 B1 c1 d1 z wr ho1.rd ho2.rd hok.out hzn (by omega))
        obtain ⟨r1, x1, e1, f1, b1⟩ := less_small lo hlo
        obtain ⟨r2, x2, e2, f2, b2⟩ := more_small hi hhi
        have q1 := fun W => op_fact .sub _ _ r1 e1 W
        have q2 := fun W => op_fact .add _ _ r2 e2 W
        have q3 := fun W => near_fact lo W
        have q4 := fun W => near_fact hi W
        have f3 : Fl (FloatKind.f64.nearest lo) (lo * U) := fl_int (by rw [pw_53]; omega)
        have g0 : ((z.length : Int) == 0) = false := by rw [beq_eq_false_iff_ne]; omega
        have HK := Lib.hid (And.intro f1 (And.intro f2 (And.intro f3 (And.intro b1 b2))))
        have HALL := Lib.hid hall
        have HLO := Lib.hid (And.intro hlo hhi)
        subst hkz
        clear ho1 ho2 hall hfr hn1 hn2 HG hzl hok HR HR2 f1 f2 f3 b1 b2 e1 e2 hlo hhi h0 hzn hlt hk
        generalize FloatKind.f64.nearest lo = fl at *
        generalize FloatKind.f64.nearest hi = fh at *
        have hcase : Hid (lo = hi) ∨ Hid (¬ lo = hi) := by
          by_cases hlh : lo = hi
          · exact .inl (Lib.hid hlh)
          · exact .inr (Lib.hid hlh)
        rcases hcd.out with c1 | ⟨c1, c2⟩ <;> rcases hcase with hlh | hlh
        all_goals
          go_wp2_with fail
          refine HM.out.mono ?_
          rintro e w5 ⟨r, v, rfl, hw5, hv, hvb⟩
          obtain ⟨f1, f2, f3, b1, b2⟩ := HK.out
          have hb := hvb lo hi HALL.out (by have := HLO.out.1; omega) (by have := HLO.out.2; omega)
          have p1 := ge_fl hv f1
          have p2 := le_fl hv f2
          rw [decide_eq_true (by omega)] at p1 p2
          have p3 := eq_fl hv f3
          have p4 : lo = hi → (FloatKind.f64.format.order r fl == some .eq) = true := fun hh => by
            rw [p3]; subst hh; exact decide_eq_true (by omega)
          clear p3 hvb f1 f2 f3 b1 b2 hb hv
          first
            | (have p4 := p4 hlh.out
               have p5 : (lo != hi) = false := by rw [hlh.out]; simp
               clear hlh)
            | (have p5 : (lo != hi) = true := by rw [bne_iff_ne]; exact hlh.out
               clear p4 hlh)
          go_wp2
          go_ret
          exact ⟨rfl, (HFR.out.trans hw5).belowNo⟩
end Go.Proofs.YtdmjnheohjegdaaDoor
