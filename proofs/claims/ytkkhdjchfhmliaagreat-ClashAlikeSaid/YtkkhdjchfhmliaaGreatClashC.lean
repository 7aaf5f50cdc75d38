/- Rows of marked orders; slices.ContainsFunc over them; clash.begins. -/
import Derived.Test.YtkkhdjchfhmliaaGreatClashB
import Derived.Test.YtkkhdjchfhmliaaGreatMOV
namespace Go.Proofs.YtkkhdjchfhmliaaGreat
open Go.RowKit Go.My Go.Maps Go.WideMaps
set_option linter.unusedSimpArgs false
set_option linter.unusedVariables false
attribute [local go_sem ↓] Go.wp_at_zero Go.wp_at_succ

/-- a marked order's cells -/
def MkR (w : World) (F : Nat → Prop) (cs : List Value) (x : Od) : Prop := ∃ A n c C e, cs = x.cs (.slice A n c) ++ [.slice C (touchL x).length e] ∧ IdOk x.id ∧ Rd w F 1 C (touchL x).length (ts (touchL x)) ∧ (touchL x).length ≤ 1000000
theorem elM : El Tryz.prog 86 70 11 144 := ⟨Tryz.underlying86, by
  have h : (Tryz.prog.info? 70).map (fun i => (i.zero, i.size, i.bytes)) = some (some (.agg #[.int .i64 0, .int .i64 0, .int .i64 0, .string ⟨#[]⟩, .string ⟨#[]⟩, .int .i64 0, .slice none 0 0, .int .i64 0, .int .i64 0, .string ⟨#[]⟩, .slice none 0 0]), 11, 144) := by kernel_rfl
  obtain ⟨i, hi, hz, hs, hb⟩ := info_parts h
  exact ⟨i, _, hi, hz, hs, hb, rfl⟩, by omega⟩
def MksS (w0 w : World) (F G : Nat → Prop) (A : Option Addr) (l : List Od) : Prop := ∃ cells, Rd w F 11 A l.length cells ∧ Each (MkR w0 G) 11 cells l
theorem MksS.at_ {w0 w : World} {F G : Nat → Prop} {A : Option Addr} {l : List Od} (h : MksS w0 w F G A l) (k : Nat) (hk : k < l.length) :
    ∃ ad B n c C e, A = some ad ∧ IdOk l[k].id ∧ Rd w0 G 1 C (touchL l[k]).length (ts (touchL l[k])) ∧ (touchL l[k]).length ≤ 1000000 ∧ w.cell? (ad.add (k * 11)) = some (.int .i64 l[k].cl) ∧ w.cell? ⟨(ad.add (k * 11)).block, (ad.add (k * 11)).off + 1, none⟩ = some (.int .i64 l[k].sq) ∧
      w.cell? ⟨(ad.add (k * 11)).block, (ad.add (k * 11)).off + 2, none⟩ = some (.int .i64 l[k].kd) ∧ w.cell? ⟨(ad.add (k * 11)).block, (ad.add (k * 11)).off + 3, none⟩ = some (.string l[k].acct) ∧
      w.cell? ⟨(ad.add (k * 11)).block, (ad.add (k * 11)).off + 4, none⟩ = some (.string l[k].peer) ∧ w.cell? ⟨(ad.add (k * 11)).block, (ad.add (k * 11)).off + 5, none⟩ = some (.int .i64 l[k].sum) ∧
      w.cell? ⟨(ad.add (k * 11)).block, (ad.add (k * 11)).off + 6, none⟩ = some (.slice B n c) ∧ w.cell? ⟨(ad.add (k * 11)).block, (ad.add (k * 11)).off + 7, none⟩ = some (.int .i64 l[k].per) ∧
      w.cell? ⟨(ad.add (k * 11)).block, (ad.add (k * 11)).off + 8, none⟩ = some (.int .i64 l[k].hold) ∧ w.cell? ⟨(ad.add (k * 11)).block, (ad.add (k * 11)).off + 9, none⟩ = some (.string l[k].note) ∧
      w.cell? ⟨(ad.add (k * 11)).block, (ad.add (k * 11)).off + 10, none⟩ = some (.slice C (touchL l[k]).length e) := by
  obtain ⟨cells, hr, hE⟩ := h
  obtain ⟨ad, rfl, hF, hc⟩ := hr.2 (by omega)
  obtain ⟨B, n, c, C, e, hcs, hok, hT, hS⟩ := hE.2 k l[k] (List.getElem?_eq_getElem hk)
  have hget : ∀ i, i < 11 → cells[k * 11 + i]? = (l[k].cs (.slice B n c) ++ [.slice C (touchL l[k]).length e])[i]? := fun i hi => by
    rw [← hcs, List.getElem?_take, if_pos hi, List.getElem?_drop]
  have hj : ∀ i, 0 < i → i < 11 → ∀ u, (l[k].cs (.slice B n c) ++ [.slice C (touchL l[k]).length e])[i]? = some u → w.cell? ⟨(ad.add (k * 11)).block, (ad.add (k * 11)).off + i, none⟩ = some u := fun i h0 hi u hu => by
    rw [← add_lits ad (k * 11) i h0]
    exact hc _ _ (by rw [hget i hi]; exact hu)
  refine ⟨ad, B, n, c, C, e, rfl, hok, hT, hS, hc (k * 11) _ (by have := hget 0 (by omega); rw [Nat.add_zero] at this; rw [this]; rfl), hj 1 (by omega) (by omega) _ rfl, hj 2 (by omega) (by omega) _ rfl, hj 3 (by omega) (by omega) _ rfl, hj 4 (by omega) (by omega) _ rfl, hj 5 (by omega) (by omega) _ rfl, hj 6 (by omega) (by omega) _ rfl, hj 7 (by omega) (by omega) _ rfl, hj 8 (by omega) (by omega) _ rfl, hj 9 (by omega) (by omega) _ rfl, hj 10 (by omega) (by omega) _ rfl⟩
theorem MksS.no {w0 w w' : World} {F G : Nat → Prop} {A : Option Addr} {l : List Od} (h : MksS w0 w F G A l) (hf : Fr No w w') : MksS w0 w' F G A l := by
  obtain ⟨cells, hr, hE⟩ := h
  exact ⟨cells, hr.fr (by omega) hf (fun _ _ _ h => h), hE⟩

/-- the first for which q holds -/
def idxO (q : Od → Bool) (L : List Od) : Int := match L.findIdx? q with | some i => (i : Int) | none => -1
def IxORel (w : World) (q : Od → Bool) (L : List Od) (iv : Value) (wr : World) : Prop := ∃ k : Nat, k ≤ L.length ∧ iv = .int .i64 k ∧ (∀ g ∈ L.take k, q g = false) ∧ Fr No w wr
abbrev msV (gm gl ga go_ : Nat) : Value := .func (.func 42) #[] #[.pointer (some ⟨gm, 0, none⟩), .pointer (some ⟨gl, 0, none⟩), .pointer (some ⟨ga, 0, none⟩), .pointer (some ⟨go_, 0, none⟩)]
set_option maxRecDepth 100000 in
set_option maxHeartbeats 1000000 in
theorem indexM_any (w : World) (F G : Nat → Prop) (A : Option Addr) (c : Nat) (l : List Od) (gm gl ga go_ gw mw ma : Nat) (L : List Idk) (o : Od) (vo : Value) (B : Option Addr) (d : Nat) (h : MsS w gm gl ga go_ gw mw ma L o vo B d)
    (hl : MksS w w F G A l) (hn : l.length ≤ 1000000) :
    Calls Tryz.prog 63 #[.slice A l.length c, msV gm gl ga go_] w fun e w' => e = .returned (.int .i64 (idxO (badI L o) l)) ∧ Fr No w w' := by
  have HR := Lib.hid hl
  have HM := Lib.hid h
  have hen : ∀ args W, (callFunc 42 args).run Tryz.prog W = .ok (.enter 42 args) W := enters_of Tryz.func42 (by kernel_rfl) rfl
  clear hl h
  generalize hq : badI L o = q at *
  go_enter Tryz.func63, Tryz.ntmps63
  go_wp2
  go_loopw [8] (fun iv wr => IxORel w q l iv wr) (fun iv _ => l.length - (intOf iv).toNat)
  case atStart => exact ⟨0, Nat.zero_le _, rfl, fun g hg => by simp at hg, Fr.refl _ _⟩
  case round =>
    obtain ⟨k, hk, rfl, hall, hfr⟩ := hrel
    have hk62 : (k : Int) ≤ 1000000 := by omega
    by_cases hlt : k < l.length
    · obtain ⟨ad, vA, vn, vc, C, e_, rfl, hok, hT, hS, q0, q1, q2, q3, q4, q5, q6, q7, q8, q9, q10⟩ := (HR.out.no hfr).at_ k hlt
      have HCK : Hid (∀ W, Fr No w W → Calls Tryz.prog 42 #[mkd l[k] (.slice vA vn vc) (.slice C (touchL l[k]).length e_), .pointer (some ⟨gm, 0, none⟩), .pointer (some ⟨gl, 0, none⟩), .pointer (some ⟨ga, 0, none⟩), .pointer (some ⟨go_, 0, none⟩)] W fun e w' => e = .returned (.bool (q l[k])) ∧ Fr No W w') := fun W hW => by
        rw [← hq]
        exact misplaced_any W gm gl ga go_ gw mw ma L o vo B d (HM.out.no hW) l[k] _ G C e_ (hT.fr (by omega) hW (fun _ _ _ h => h)) ⟨_, _, _, rfl⟩ hok hS
      have HFR := Lib.hid hfr
      have HT : Hid (q l[k] = true → idxO q l = (k : Int)) := fun h => by
        unfold idxO
        rw [List.findIdx?_eq_some_iff_getElem.2 ⟨hlt, h, fun j hj => by
          have := hall l[j] (List.mem_take_iff_getElem.2 ⟨j, by omega, rfl⟩)
          simp [this]⟩]
      have HN : Hid (q l[k] = false → ∀ g ∈ l.take (k + 1), q g = false) := fun h g hg => by
        rw [List.take_succ_eq_append_getElem hlt, List.mem_append] at hg
        rcases hg with hg | hg
        · exact hall g hg
        · rw [List.mem_singleton.1 hg]; exact h
      have HLT : Hid (k + 1 ≤ l.length) := hlt
      unfold mkd Od.cs at HCK
      simp only [List.cons_append, List.nil_append] at HCK
      generalize (touchL l[k]).length = tn at *
      generalize l[k].cl = cl at *
      generalize l[k].sq = sq at *
      generalize l[k].kd = kd at *
      generalize l[k].acct = acct at *
      generalize l[k].peer = peer at *
      generalize l[k].sum = sum at *
      generalize l[k].per = per at *
      generalize l[k].hold = hold at *
      generalize l[k].note = note at *
      clear hall hfr hok hT hS
      generalize l[k] = xk at *
      rcases (Bool.eq_false_or_eq_true (q xk)).symm with hb | hb
      · rw [hb] at HCK
        have HN2 := Lib.hid (HN.out hb)
        clear HT HN hb
        go_wp2_with fail
        (with_reducible refine (HCK.out _ HFR.out).mono ?_)
        rintro e w1 ⟨rfl, hf1⟩
        clear q0 q1 q2 q3 q4 q5 q6 q7 q8 q9 q10
        go_wp2
        go_roundw
        case rel => exact ⟨k + 1, HLT.out, by go_num, HN2.out, HFR.out.trans hf1⟩
        case measure => have := HLT.out; simp [intOf]; omega
      · rw [hb] at HCK
        have HT2 := Lib.hid (HT.out hb)
        clear HT HN hb
        go_wp2_with fail
        (with_reducible refine (HCK.out _ HFR.out).mono ?_)
        rintro e w1 ⟨rfl, hf1⟩
        clear q0 q1 q2 q3 q4 q5 q6 q7 q8 q9 q10
        go_wp2
        go_ret
        exact ⟨by rw [HT2.out]; rfl, HFR.out.trans hf1⟩
    · obtain rfl : k = l.length := by omega
      have HF : Hid (idxO q l = -1) := by
        show _ = _
        unfold idxO
        rw [List.take_length] at hall
        rw [List.findIdx?_eq_none_iff.2 hall]
      go_wp2
      go_ret
      exact ⟨by rw [HF.out]; rfl, hfr⟩
theorem containsM_any (w : World) (F G : Nat → Prop) (A : Option Addr) (c : Nat) (l : List Od) (gm gl ga go_ gw mw ma : Nat) (L : List Idk) (o : Od) (vo : Value) (B : Option Addr) (d : Nat) (h : MsS w gm gl ga go_ gw mw ma L o vo B d)
    (hl : MksS w w F G A l) (hn : l.length ≤ 1000000) :
    Calls Tryz.prog 43 #[.slice A l.length c, msV gm gl ga go_] w fun e w' => e = .returned (.bool (l.any (badI L o))) ∧ Fr No w w' := by
  have HX := Lib.hid (indexM_any w F G A c l gm gl ga go_ gw mw ma L o vo B d h hl hn)
  have HA : Hid (decide (0 ≤ idxO (badI L o) l) = l.any (badI L o)) := by
    show _ = _
    unfold idxO
    cases h : l.findIdx? (badI L o) with
    | none =>
      rw [List.findIdx?_eq_none_iff] at h
      simp only
      rw [List.any_eq_false.2 (fun x hx => by rw [h x hx]; decide)]
      rfl
    | some i =>
      obtain ⟨hlt, hi, _⟩ := List.findIdx?_eq_some_iff_getElem.1 h
      simp only
      rw [List.any_eq_true.2 ⟨l[i], List.getElem_mem hlt, hi⟩]
      exact decide_eq_true (by omega)
  clear h hl
  go_enter Tryz.func43, Tryz.ntmps43
  go_wp2_with fail
  (with_reducible refine HX.out.mono ?_)
  rintro e w1 ⟨rfl, hf1⟩
  go_wp2
  go_ret
  exact ⟨by rw [← HA.out]; rfl, hf1⟩
end Go.Proofs.YtkkhdjchfhmliaaGreat
