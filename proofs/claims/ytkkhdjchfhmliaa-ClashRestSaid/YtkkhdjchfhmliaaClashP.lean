/- ClashRest: the walk. -/
import Derived.Test.YtkkhdjchfhmliaaMF
namespace Go.Proofs.Ytkkhdjchfhmliaa
open Go.RowKit Go.My Go.Maps Go.WideMaps
set_option linter.unusedSimpArgs false
set_option linter.unusedVariables false
attribute [local go_sem ↓] Go.wp_at_zero Go.wp_at_succ

/-- few, then own -/
theorem few_own (w W : World) (A : Option Addr) (c n : Nat) (l : List Od) (hl : OdsS w w (Lt w.heap.size) A l) (hlc : l.length ≤ c) (hcm : c ≤ maxLen) (hn : n ≤ 1000) (hW : Fr No w W) :
    Calls Try.prog 9 #[.slice A l.length c, .int .i64 (n : Int)] W fun e w1 => ∃ A1 c1 m, e = .returned (.slice A1 m c1) ∧ Fr No W w1 ∧ ∀ W1, Fr No w1 W1 →
      Calls Try.prog 8 #[.slice A1 m c1] W1 fun e w2 => ∃ A2 c2, e = .returned (.slice A2 (lawL l n).length c2) ∧ Ls w2 Tr A2 c2 (lawL l n) ∧ Fr No W1 w2 ∧ c2 ≤ maxLen := by
  refine (few10_any w W _ A c l n (hl.fr hW (fun _ _ _ h => h)) hlc hcm hn).mono ?_
  rintro e w1 ⟨A1, c1, rfl, ho, h1, h2, hf1⟩
  refine ⟨A1, c1, _, rfl, hf1, fun W1 hW1 => ?_⟩
  refine (own10_any w W1 _ A1 c1 (fewO l n) (ho.fr hW1 (fun _ _ _ h => h)) (by have := fewO_length l n; omega)).mono ?_
  rintro e w2 ⟨A2, c2, rfl, ho2, h3, h4, hf2⟩
  exact ⟨A2, c2, rfl, lawL_ls ho2 (((hW.trans hf1).trans hW1).trans hf2) h3 hn, hf2, h4⟩
def PrRel (w : World) (n : Nat) (iv : Value) (wr : World) : Prop := ∃ k : Nat, k ≤ n ∧ iv = .int .i64 k ∧ Fr No w wr
set_option maxRecDepth 100000 in
set_option maxHeartbeats 2000000 in
theorem clashRest_walk (A : Option Addr) (c : Nat) (la : List Od) (B : Option Addr) (d : Nat) (lb : List Od) (w : World) (ra : OdsS w w (Lt w.heap.size) A la) (ca : la.length ≤ c) (ma : c ≤ maxLen) (rb : OdsS w w (Lt w.heap.size) B lb) (cb : lb.length ≤ d) (mb : d ≤ maxLen) :
    Calls Try.prog 6 #[.slice A la.length c, .slice B lb.length d] w fun e w' => e = .returned (.bool true) ∧ Below w.heap.size w w' := by
  have HLV : Hid (∀ W, _) := fun W => lives10 W
  have HA : Hid (∀ W, Fr No w W → _) := fun W hW => few_own w W A c 25 la ra ca ma (by omega) hW
  have HB : Hid (∀ W, Fr No w W → _) := fun W hW => few_own w W B d 25 lb rb cb mb (by omega) hW
  have HRA := Lib.hid (lawL_rt la 25)
  have HRB := Lib.hid (lawL_rt lb 25)
  have HLA := Lib.hid (lawL_len la 25)
  have HLB := Lib.hid (lawL_len lb 25)
  clear ra rb ca cb ma mb
  generalize hga : lawL la 25 = a at *
  generalize hgb : lawL lb 25 = b at *
  clear hga hgb
  generalize la.length = na at *
  generalize lb.length = nb at *
  have HR : Hid (∀ W A c B d, Ls W Tr A c a → Ls W Tr B d b → Calls Try.prog 13 #[.slice A a.length c, .slice B b.length d] W (RetN W (restO a b))) := fun W A c B d h1 h2 => restC_any W Tr Tr A B c d a b h1 h2
  have HG : Hid (∀ W A c B d, Ls W Tr A c a → Ls W Tr B d b → Calls Try.prog 11 #[.slice A a.length c, .slice B b.length d] W fun e w' => e = .returned (.bool (beginsB a b)) ∧ Fr No W w') := fun W A c B d h1 h2 => beginsC_any W Tr Tr A B c d a b h1 h2
  have HRN : Hid (∀ W B d, Ls W Tr B d b → Calls Try.prog 13 #[.slice none 0 0, .slice B b.length d] W (RetN W b)) := fun W B d h2 => by
    have h := restC_any W Tr Tr none B 0 d [] b (Ls.nil W 0) h2
    rw [rest_nil HRB.out] at h
    exact h
  have HRS : Hid (∀ W B d, Ls W Tr B d b → Calls Try.prog 13 #[.slice B b.length d, .slice B b.length d] W fun e w' => ∃ A c, e = .returned (.slice A 0 c) ∧ Fr No W w') := fun W B d h2 => by
    have h := restC_any W Tr Tr B B d d b b h2 h2
    rw [rest_self HRB.out] at h
    refine h.mono ?_
    rintro e w' ⟨A, c, h1, _, h3, _⟩
    exact ⟨A, c, h1, h3⟩
  have HGN : Hid (∀ W B d, Ls W Tr B d b → Calls Try.prog 11 #[.slice none 0 0, .slice B b.length d] W fun e w' => e = .returned (.bool true) ∧ Fr No W w') := fun W B d h2 => by
    have h := beginsC_any W Tr Tr none B 0 d [] b (Ls.nil W 0) h2
    rw [begins_nil HRB.out] at h
    exact h
  have HGS : Hid (∀ W B d, Ls W Tr B d b → Calls Try.prog 11 #[.slice B b.length d, .slice B b.length d] W fun e w' => e = .returned (.bool true) ∧ Fr No W w') := fun W B d h2 => by
    have h := beginsC_any W Tr Tr B B d d b b h2 h2
    rw [begins_refl HRB.out] at h
    exact h
  have HSM : Hid (∀ W A c B d, Ls W Tr A c b → Ls W Tr B d b → Calls Try.prog 18 #[.slice A b.length c, .slice B b.length d] W fun e w' => e = .returned (.bool true) ∧ Fr No W w') := fun W A c B d h1 h2 => same10_eq W Tr Tr A B c d b h1 h2
  have HAA : Hid (∀ W A c x y, Ls W Tr A c a → Calls Try.prog 19 #[.slice A a.length c, .agg #[.int .i64 x, .int .i64 y]] W fun e w' => e = .returned (.int .i64 (atL (idsO a) (x, y))) ∧ Fr No W w') := fun W A c x y h => at10_any W W Tr A c a x y h.ods h.n
  have HAB : Hid (∀ W A c x y, Ls W Tr A c b → Calls Try.prog 19 #[.slice A b.length c, .agg #[.int .i64 x, .int .i64 y]] W fun e w' => e = .returned (.int .i64 (atL (idsO b) (x, y))) ∧ Fr No W w') := fun W A c x y h => at10_any W W Tr A c b x y h.ods h.n
  rcases (Bool.eq_false_or_eq_true (beginsB a b)).symm with hbg | hbg
  · have hr0 : restO a b = [] := by unfold restO; rw [hbg]; rfl
    rw [hr0] at HR
    rw [hbg] at HG
    clear hr0 hbg HRN HRS HGN HGS HSM HAA HAB
    go_enter Try.func6, Try.ntmps6
    go_wp2_with fail
    (with_reducible refine (HLV.out _).mono ?_)
    rintro e w1 ⟨rfl, hf1⟩
    go_wp2_with fail
    refine (HA.out _ hf1).mono ?_
    rintro e w2 ⟨A2, c2, m2, rfl, hf2, HA2⟩
    go_wp2_with fail
    (with_reducible refine (HA2 _ (Fr.refl _ _)).mono ?_)
    rintro e w3 ⟨A3, c3, rfl, hl3, hf3, -⟩
    clear HA2
    have HF3 := Lib.hid ((hf1.trans hf2).trans hf3)
    have HL3 := Lib.hid hl3
    clear hf1 hf2 hf3 hl3
    go_wp2_with fail
    refine (HB.out _ HF3.out).mono ?_
    rintro e w4 ⟨A4, c4, m4, rfl, hf4, HB2⟩
    go_wp2_with fail
    (with_reducible refine (HB2 _ (Fr.refl _ _)).mono ?_)
    rintro e w5 ⟨A5, c5, rfl, hl5, hf5, -⟩
    clear HB2
    have HF5 := Lib.hid ((HF3.out.trans hf4).trans hf5)
    have HLa := Lib.hid ((HL3.out.no hf4).no hf5)
    have HLb := Lib.hid hl5
    clear hf4 hf5 hl5 HL3
    go_wp2_with fail
    (with_reducible refine (HR.out _ _ _ _ _ HLa.out HLb.out).mono ?_)
    rintro e w6 ⟨A6, c6, rfl, -, hf6, -⟩
    go_wp2_with fail
    (with_reducible refine (HG.out _ _ _ _ _ (HLa.out.no hf6) (HLb.out.no hf6)).mono ?_)
    rintro e w7 ⟨rfl, hf7⟩
    go_wp2
    go_ret
    exact ⟨rfl, ((HF5.out.trans hf6).trans hf7).belowNo⟩
  · have HM : Hid (∀ o ∈ restO a b, o ∈ b ∧ o.id ∉ idsO a) := fun o ho => mem_rest ho
    have HLN := Lib.hid (rest_len hbg)
    rw [hbg] at HG
    generalize restO a b = r at *
    clear hbg
    go_enter Try.func6, Try.ntmps6
    go_wp2_with fail
    (with_reducible refine (HLV.out _).mono ?_)
    rintro e w1 ⟨rfl, hf1⟩
    go_wp2_with fail
    refine (HA.out _ hf1).mono ?_
    rintro e w2 ⟨A2, c2, m2, rfl, hf2, HA2⟩
    go_wp2_with fail
    (with_reducible refine (HA2 _ (Fr.refl _ _)).mono ?_)
    rintro e w3 ⟨A3, c3, rfl, hl3, hf3, -⟩
    clear HA2
    have HF3 := Lib.hid ((hf1.trans hf2).trans hf3)
    have HL3 := Lib.hid hl3
    clear hf1 hf2 hf3 hl3
    go_wp2_with fail
    refine (HB.out _ HF3.out).mono ?_
    rintro e w4 ⟨A4, c4, m4, rfl, hf4, HB2⟩
    go_wp2_with fail
    (with_reducible refine (HB2 _ (Fr.refl _ _)).mono ?_)
    rintro e w5 ⟨A5, c5, rfl, hl5, hf5, -⟩
    clear HB2
    have HF5 := Lib.hid ((HF3.out.trans hf4).trans hf5)
    have HLa := Lib.hid ((HL3.out.no hf4).no hf5)
    have HLb := Lib.hid hl5
    clear hf4 hf5 hl5 HL3
    go_wp2_with fail
    (with_reducible refine (HR.out _ _ _ _ _ HLa.out HLb.out).mono ?_)
    rintro e w6 ⟨A6, c6, rfl, ho6, hf6, -⟩
    have HO6 := Lib.hid ho6
    have HLa6 := Lib.hid (HLa.out.no hf6)
    have HLb6 := Lib.hid (HLb.out.no hf6)
    have HF6 := Lib.hid (HF5.out.trans hf6)
    clear ho6 hf6 HLa HLb HF5
    go_wp2_with fail
    (with_reducible refine (HG.out _ _ _ _ _ HLa6.out HLb6.out).mono ?_)
    rintro e w7 ⟨rfl, hf7⟩
    have HO7 := Lib.hid (HO6.out.no hf7)
    have HLa := Lib.hid (HLa6.out.no hf7)
    have HLb := Lib.hid (HLb6.out.no hf7)
    have HF7 := Lib.hid (HF6.out.trans hf7)
    clear hf7 HLa6 HLb6 HO6 HF6 HR HG HA HB HLV
    have hrl : (r.length : Int) ≤ 25 := by have := HLN.out; have := HLB.out; omega
    go_wp2
    go_loopw [6] (fun iv wr => PrRel w7 r.length iv wr) (fun iv _ => r.length - (intOf iv).toNat)
    case atStart => exact ⟨0, Nat.zero_le _, rfl, Fr.refl _ _⟩
    case round =>
      obtain ⟨k, hk, rfl, hfr⟩ := hrel
      have hk62 : (k : Int) ≤ 25 := by omega
      by_cases hlt : k < r.length
      · obtain ⟨ad, v, rfl, _, hok, hg, hL, q0, q1, q2, q3, q4, q5, q6, q7, q8, q9⟩ := (HO7.out.no hfr).ods.at_ k hlt
        obtain ⟨h1, h2⟩ := HM.out r[k] (List.getElem_mem hlt)
        have ha : atL (idsO a) (r[k].cl, r[k].sq) = -1 := atL_none fun x hx e => h2 (by have e : x = r[k].id := e; rw [← e]; exact hx)
        have hbp : 0 ≤ atL (idsO b) (r[k].cl, r[k].sq) := by
          have hmb : r[k].id ∈ idsO b := List.mem_map_of_mem h1
          by_cases h : atL (idsO b) (r[k].cl, r[k].sq) < 0
          · exact absurd hmb (atL_neg.1 h)
          · exact Int.not_lt.1 h
        have HAK := Lib.hid (HAA.out wr _ _ r[k].cl r[k].sq (HLa.out.no hfr))
        rw [ha] at HAK
        have HBK : Hid (∀ W, Fr No wr W → _) := fun W hW => HAB.out W _ _ r[k].cl r[k].sq ((HLb.out.no hfr).no hW)
        have HFR := Lib.hid hfr
        have HLT : Hid (k + 1 ≤ r.length) := hlt
        have hkl : (k : Int) < r.length := by omega
        generalize atL (idsO b) (r[k].cl, r[k].sq) = pb at *
        generalize r[k].cl = cl at *
        generalize r[k].sq = sq at *
        clear hok hg hL h1 h2 ha hfr q2 q3 q4 q5 q6 q7 q8 q9
        have hpb : ¬ pb < 0 := by omega
        go_wp2_with fail
        (with_reducible refine HAK.out.mono ?_)
        rintro e w8 ⟨rfl, hf8⟩
        have r0 := hf8.cell_some q0 (fun h => h)
        have r1 := hf8.cell_some q1 (fun h => h)
        have HF8 := Lib.hid hf8
        clear q0 q1 hf8
        go_wp2_with fail
        refine (HBK.out _ HF8.out).mono ?_
        rintro e w9 ⟨rfl, hf9⟩
        clear r0 r1
        go_wp2
        go_roundw
        case rel => exact ⟨k + 1, HLT.out, by go_num, (HFR.out.trans HF8.out).trans hf9⟩
        case measure => have := HLT.out; simp [intOf]; omega
      · obtain rfl : k = r.length := by omega
        have hsum : (a.length : Int) + (r.length : Int) = (b.length : Int) := by have := HLN.out; omega
        have hal : (a.length : Int) ≤ 25 := by have := HLA.out; omega
        have hbl : (b.length : Int) ≤ 25 := by have := HLB.out; omega
        have HLb8 := Lib.hid (HLb.out.no hfr)
        have HFR := Lib.hid (HF7.out.trans hfr)
        clear hfr
        go_wp2_with fail
        (with_reducible refine (HRN.out _ _ _ HLb8.out).mono ?_)
        rintro e w9 ⟨A9, c9, rfl, ho9, hf9, -⟩
        have HLo := Lib.hid (ho9.ls HLb8.out.n HLb8.out.s)
        have HLb9 := Lib.hid (HLb8.out.no hf9)
        have HF9 := Lib.hid (HFR.out.trans hf9)
        clear ho9 hf9 HLb8 HFR
        go_wp2_with fail
        (with_reducible refine (HSM.out _ _ _ _ _ HLo.out HLb9.out).mono ?_)
        rintro e w10 ⟨rfl, hf10⟩
        have HLb10 := Lib.hid (HLb9.out.no hf10)
        have HF10 := Lib.hid (HF9.out.trans hf10)
        clear hf10 HLb9 HF9
        go_wp2_with fail
        (with_reducible refine (HRS.out _ _ _ HLb10.out).mono ?_)
        rintro e w11 ⟨A11, c11, rfl, hf11⟩
        have HLb11 := Lib.hid (HLb10.out.no hf11)
        have HF11 := Lib.hid (HF10.out.trans hf11)
        clear hf11 HLb10 HF10
        go_wp2_with fail
        (with_reducible refine (HGN.out _ _ _ HLb11.out).mono ?_)
        rintro e w12 ⟨rfl, hf12⟩
        have HLb12 := Lib.hid (HLb11.out.no hf12)
        have HF12 := Lib.hid (HF11.out.trans hf12)
        clear hf12 HLb11 HF11
        go_wp2_with fail
        (with_reducible refine (HGS.out _ _ _ HLb12.out).mono ?_)
        rintro e w13 ⟨rfl, hf13⟩
        go_wp2
        go_ret
        exact ⟨rfl, (HF12.out.trans hf13).belowNo⟩
end Go.Proofs.Ytkkhdjchfhmliaa
