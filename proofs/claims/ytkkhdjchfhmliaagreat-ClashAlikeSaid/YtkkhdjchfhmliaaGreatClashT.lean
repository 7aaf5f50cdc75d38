/- ClashAlike: the walk. -/
import Derived.Test.YtkkhdjchfhmliaaGreatClashS
namespace Go.Proofs.YtkkhdjchfhmliaaGreat
open Go.RowKit Go.My Go.Maps Go.WideMaps
set_option linter.unusedSimpArgs false
set_option linter.unusedVariables false
attribute [local go_sem ↓] Go.wp_at_zero Go.wp_at_succ

/-- an order goes one place ahead, to where it stands in b -/
theorem step_ahead {l b : List Od} {i k : Nat} (hak : Ak Od.id clashB l b) (ht : l.take i = b.take i) (hi : i < b.length) (hk : l[k]? = b[i]?) (hik : i < k) : ∃ m, swapO l (k - 1) = some m ∧ Ak Od.id clashB m b ∧ m.take i = b.take i ∧ m[k - 1]? = b[i]? ∧ m.length = l.length ∧ ∀ o ∈ m, o ∈ l := by
  rw [List.getElem?_eq_getElem hi] at hk
  obtain ⟨hkl, hke⟩ := List.getElem?_eq_some_iff.1 hk
  have hk1 : k - 1 + 1 = k := by omega
  have hs := Ak.symm clashB_comm hak
  have hnl := hak.2.1.nodup
  have hnb := hak.2.2.1.nodup
  have hc : clashB (l[k - 1]'(by omega)) l[k] = false := by
    cases hc : clashB (l[k - 1]'(by omega)) l[k] with
    | false => rfl
    | true =>
      have h1 : bef (l[k - 1]'(by omega)) l[k] l := (bef_iff_get _ _ _).2 ⟨k, hkl, rfl, List.mem_take_iff_getElem.2 ⟨k - 1, by omega, rfl⟩⟩
      have h2 := hs.2.2.2.2 _ _ h1 hc (by rw [hke]; exact List.getElem_mem hi)
      obtain ⟨j, hj, he, hx⟩ := (bef_iff_get _ _ _).1 h2
      have : j = i := nodup_inj hnb hj hi (by rw [he, hke])
      subst this
      rw [← ht] at hx
      obtain ⟨t, htl, hte⟩ := List.mem_take_iff_getElem.1 hx
      have := nodup_inj hnl (by omega) (by omega) hte
      omega
  have hsw : swapO l (k - 1) = some ((l.set (k - 1) l[k]).set k (l[k - 1]'(by omega))) := by
    have h := swapO_at (l := l) (i := k - 1) (by omega)
    simp only [hk1] at h
    rw [hc] at h
    exact h
  refine ⟨_, hsw, (Ak.symm clashB_comm (swap_ak hak.2.1 hsw)).trans hak, ?_, ?_, (swap_mem hsw).1, (swap_mem hsw).2⟩
  · rw [← ht]
    apply List.ext_getElem?
    intro t
    rw [List.getElem?_take, List.getElem?_take]
    split
    · rw [List.getElem?_set, List.getElem?_set, if_neg (by omega), if_neg (by omega)]
    · rfl
  · rw [List.getElem?_set, if_neg (by omega), List.getElem?_set, if_pos rfl, if_pos (by omega), hke, List.getElem?_eq_getElem hi]
def AlRel (w : World) (b : List Od) (lv iv : Value) (wr : World) : Prop := ∃ i A c l, lv = .slice A b.length c ∧ iv = .int .i64 (i : Nat) ∧ i ≤ b.length ∧ Ls wr Tr A c l ∧ Ak Od.id clashB l b ∧ l.take i = b.take i ∧ Fr No w wr
def InRel2 (w : World) (b : List Od) (i : Nat) (lv kv : Value) (wr : World) : Prop := ∃ k A c l, lv = .slice A b.length c ∧ kv = .int .i64 (k : Nat) ∧ i ≤ k ∧ k < b.length ∧ Ls wr Tr A c l ∧ Ak Od.id clashB l b ∧ l.take i = b.take i ∧ l[k]? = b[i]? ∧ Fr No w wr
set_option maxRecDepth 100000 in
set_option maxHeartbeats 2000000 in
theorem clashAlike_walk (A : Option Addr) (c : Nat) (la : List Od) (B : Option Addr) (d : Nat) (lb : List Od) (w : World) (ra : OdsS w w (Lt w.heap.size) A la) (ca : la.length ≤ c) (ma : c ≤ maxLen) (rb : OdsS w w (Lt w.heap.size) B lb) (cb : lb.length ≤ d) (mb : d ≤ maxLen) :
    Calls Tryz.prog 4 #[.slice A la.length c, .slice B lb.length d] w fun e w' => e = .returned (.bool true) ∧ Below w.heap.size w w' := by
  have HLV : Hid (∀ W, _) := fun W => lives10 W
  have HA : Hid (∀ W, Fr No w W → _) := fun W hW => few_own w W A c 20 la ra ca ma (by omega) hW
  have HB : Hid (∀ W, Fr No w W → _) := fun W hW => few_own w W B d 20 lb rb cb mb (by omega) hW
  have HRA := Lib.hid (lawL_rt la 20)
  have HRB := Lib.hid (lawL_rt lb 20)
  have hal := lawL_len la 20
  have hbl := lawL_len lb 20
  clear ra rb ca cb ma mb
  generalize hga : lawL la 20 = a at *
  generalize hgb : lawL lb 20 = b at *
  clear hga hgb
  generalize la.length = na at *
  generalize lb.length = nb at *
  have HAB : Hid (∀ W A c B d, Ls W Tr A c a → Ls W Tr B d b → Calls Tryz.prog 10 #[.slice A a.length c, .slice B b.length d] W fun e w' => e = .returned (.bool (alikeB a b)) ∧ Fr No W w') := fun W A c B d h1 h2 => alikeC_any W Tr Tr A B c d a b h1 h2
  have HBA : Hid (∀ W A c B d, Ls W Tr A c a → Ls W Tr B d b → Calls Tryz.prog 10 #[.slice B b.length d, .slice A a.length c] W fun e w' => e = .returned (.bool (alikeB a b)) ∧ Fr No W w') := fun W A c B d h1 h2 => by
    have h := alikeC_any W Tr Tr B A d c b a h2 h1
    have e : alikeB b a = alikeB a b := by
      rw [Bool.eq_iff_iff, alikeB_iff, alikeB_iff]
      exact ⟨fun h => Ak.symm clashB_comm h, fun h => Ak.symm clashB_comm h⟩
    rw [e] at h
    exact h
  rcases (Bool.eq_false_or_eq_true (alikeB a b)).symm with hm | hm
  · rw [hm] at HAB HBA
    clear hm
    go_enter Tryz.func4, Tryz.ntmps4
    go_wp2_with fail
    (with_reducible refine (HLV.out _).mono ?_)
    rintro e w1 ⟨rfl, hf1⟩
    go_wp2_with fail
    refine (HA.out _ hf1).mono ?_
    rintro e w2 ⟨A2, c2, m2, rfl, hf2, HA2⟩
    go_wp2_with fail
    (with_reducible refine (HA2 _ (Fr.refl _ _)).mono ?_)
    rintro e w3 ⟨A3, c3, rfl, hl3, hf3, hc3⟩
    clear HA2
    have HF3 := Lib.hid ((hf1.trans hf2).trans hf3)
    have HL3 := Lib.hid hl3
    have HC3 := Lib.hid hc3
    clear hf1 hf2 hf3 hl3 hc3
    go_wp2_with fail
    refine (HB.out _ HF3.out).mono ?_
    rintro e w4 ⟨A4, c4, m4, rfl, hf4, HB2⟩
    go_wp2_with fail
    (with_reducible refine (HB2 _ (Fr.refl _ _)).mono ?_)
    rintro e w5 ⟨A5, c5, rfl, hl5, hf5, -⟩
    clear HB2
    have HF5 := Lib.hid ((HF3.out.trans hf4).trans hf5)
    have HLa := Lib.hid ((HL3.out.no hf4).no hf5)
    have HLb := Lib.hid hl5
    clear hf4 hf5 hl5 HL3 HF3 HA HB HLV
    go_wp2_with fail
    (with_reducible refine (HAB.out _ _ _ _ _ HLa.out HLb.out).mono ?_)
    rintro e w6 ⟨rfl, hf6⟩
    go_wp2_with fail
    (with_reducible refine (HBA.out _ _ _ _ _ (HLa.out.no hf6) (HLb.out.no hf6)).mono ?_)
    rintro e w7 ⟨rfl, hf7⟩
    go_wp2
    go_ret
    exact ⟨rfl, ((HF5.out.trans hf6).trans hf7).belowNo⟩
  · have HAK := Lib.hid ((alikeB_iff _ _).1 hm)
    rw [hm] at HAB HBA
    have hlen : a.length = b.length := HAK.out.1
    have HST : Hid (∀ W A c, Ls W Tr A c a → AlRel W b (.slice A b.length c) (.int .i64 0) W) := fun W A c h => ⟨0, A, c, a, rfl, rfl, Nat.zero_le _, h, HAK.out, rfl, Fr.refl _ _⟩
    rw [hlen] at HAB HBA
    have HAL : Hid ((lawL la 20).length = (lawL la 20).length) := rfl
    have HFA : Hid (∀ W A c, Ls W Tr A c a → Calls Tryz.prog 9 #[.slice A b.length c] W fun e w' => ∃ A' c' q, e = .returned (.tuple #[.slice A' b.length c', .pointer (some ⟨q.p, 0, none⟩)]) ∧ BkS w' q (foldB bk0 b) ∧ Fr No W w') := fun W A c h => by
      have h1 := foldL_any W A c a h (Nat.le_trans hal (by decide))
      rw [hlen, (fold_ak a b bki0 h.ods.ok HAK.out).1] at h1
      refine h1.mono ?_
      rintro e w' ⟨A', c', q, h2, _, h3, h4, _⟩
      exact ⟨A', c', q, h2, h3, h4⟩
    have HFB : Hid (∀ W A c, Ls W Tr A c b → Calls Tryz.prog 9 #[.slice A b.length c] W fun e w' => ∃ A' c' q, e = .returned (.tuple #[.slice A' b.length c', .pointer (some ⟨q.p, 0, none⟩)]) ∧ BkS w' q (foldB bk0 b) ∧ Fr No W w') := fun W A c h => by
      refine (foldL_any W A c b h (Nat.le_trans hbl (by decide))).mono ?_
      rintro e w' ⟨A', c', q, h2, _, h3, h4, _⟩
      exact ⟨A', c', q, h2, h3, h4⟩
    have HBS : Hid (∀ W p q, BkS W p (foldB bk0 b) → BkS W q (foldB bk0 b) → Calls Tryz.prog 11 #[.pointer (some ⟨p.p, 0, none⟩), .pointer (some ⟨q.p, 0, none⟩)] W fun e w' => e = .returned (.bool true) ∧ Fr No W w') := fun W p q h1 h2 => by
      have h := bsame_any p q _ _ W h1 h2
      rw [sameBk_self] at h
      exact h
    have HSM : Hid (∀ W A c B d, Ls W Tr A c b → Ls W Tr B d b → Calls Tryz.prog 14 #[.slice A b.length c, .slice B b.length d] W fun e w' => e = .returned (.bool true) ∧ Fr No W w') := fun W A c B d h1 h2 => same10_eq W Tr Tr A B c d b h1 h2
    have HAT : Hid (∀ W A c l x y, Ls W Tr A c l → l.length = b.length → Calls Tryz.prog 12 #[.slice A b.length c, .agg #[.int .i64 x, .int .i64 y]] W fun e w' => e = .returned (.int .i64 (atL (idsO l) (x, y))) ∧ Fr No W w') := fun W A c l x y h e => by
      have h1 := at10_any W W Tr A c l x y h.ods h.n
      rw [e] at h1
      exact h1
    have HSW : Hid (∀ W A c l i, Ls W Tr A c l → l.length = b.length → In64 i → Calls Tryz.prog 13 #[.slice A b.length c, .int .i64 i] W (SwRet W (swapI l i))) := fun W A c l i h e hi => by
      have h1 := swapC_any W Tr A c l i h hi
      rw [e] at h1
      exact h1
    clear hm
    go_enter Tryz.func4, Tryz.ntmps4
    go_wp2_with fail
    (with_reducible refine (HLV.out _).mono ?_)
    rintro e w1 ⟨rfl, hf1⟩
    go_wp2_with fail
    refine (HA.out _ hf1).mono ?_
    rintro e w2 ⟨A2, c2, m2, rfl, hf2, HA2⟩
    go_wp2_with fail
    (with_reducible refine (HA2 _ (Fr.refl _ _)).mono ?_)
    rintro e w3 ⟨A3, c3, rfl, hl3, hf3, hc3⟩
    clear HA2
    have HF3 := Lib.hid ((hf1.trans hf2).trans hf3)
    have HL3 := Lib.hid hl3
    have HC3 := Lib.hid hc3
    clear hf1 hf2 hf3 hl3 hc3
    go_wp2_with fail
    refine (HB.out _ HF3.out).mono ?_
    rintro e w4 ⟨A4, c4, m4, rfl, hf4, HB2⟩
    go_wp2_with fail
    (with_reducible refine (HB2 _ (Fr.refl _ _)).mono ?_)
    rintro e w5 ⟨A5, c5, rfl, hl5, hf5, -⟩
    clear HB2
    have HF5 := Lib.hid ((HF3.out.trans hf4).trans hf5)
    have HLa := Lib.hid ((HL3.out.no hf4).no hf5)
    have HLb := Lib.hid hl5
    clear hf4 hf5 hl5 HL3 HF3 HA HB HLV
    rw [hlen] at *
    go_wp2_with fail
    (with_reducible refine (HAB.out _ _ _ _ _ HLa.out HLb.out).mono ?_)
    rintro e w6 ⟨rfl, hf6⟩
    have HLa6 := Lib.hid (HLa.out.no hf6)
    have HLb6 := Lib.hid (HLb.out.no hf6)
    have HF6 := Lib.hid (HF5.out.trans hf6)
    clear hf6 HLa HLb HF5 HAB
    go_wp2
    go_loopw [5, 6] (fun lv iv wr => AlRel w6 b lv iv wr) (fun _ iv _ => b.length - (intOf iv).toNat)
    case atStart => exact HST.out _ _ _ HLa6.out
    case round =>
      obtain ⟨i, A8, c8, l, rfl, rfl, hi, hls, hak, htk, hfr⟩ := hrel
      have hi62 : (i : Int) ≤ 20 := by omega
      by_cases hlt : i < b.length
      · obtain ⟨ad, v, rfl, _, hok, hg, hL, q0, q1, q2, q3, q4, q5', q6', q7, q8, q9⟩ := (HLb6.out.no hfr).ods.at_ i hlt
        have hmem : b[i] ∈ l := (Ak.symm clashB_comm hak).2.2.2.1 b[i] (List.getElem_mem hlt)
        obtain ⟨k0, hk0, hke⟩ := List.mem_iff_getElem.1 hmem
        have hat := atL_rt hak.2.1 hk0
        rw [hke] at hat
        have hk0b : k0 < b.length := by rw [← hak.1]; exact hk0
        have hik0 : i ≤ k0 := by
          rcases Nat.lt_or_ge k0 i with h | h
          · have e1 : (l.take i)[k0]? = (b.take i)[k0]? := by rw [htk]
            rw [List.getElem?_take, List.getElem?_take, if_pos h, if_pos h, List.getElem?_eq_getElem hk0, List.getElem?_eq_getElem hk0b, hke] at e1
            injection e1 with e1
            have := nodup_inj hak.2.2.1.nodup hlt hk0b e1
            omega
          · exact h
        have hlk0 : l[k0]? = b[i]? := by rw [List.getElem?_eq_getElem hk0, hke, List.getElem?_eq_getElem hlt]
        have HAK2 : Hid (Calls Tryz.prog 12 #[.slice A8 b.length c8, .agg #[.int .i64 b[i].cl, .int .i64 b[i].sq]] wr fun e w' => e = .returned (.int .i64 (k0 : Int)) ∧ Fr No wr w') := by
          have h := HAT.out wr A8 c8 l b[i].cl b[i].sq hls hak.1
          rw [show atL (idsO l) (b[i].cl, b[i].sq) = (k0 : Int) from hat] at h
          exact h
        have HIN : Hid (∀ W, Fr No wr W → InRel2 W b i (.slice A8 b.length c8) (.int .i64 (k0 : Int)) W) := fun W hW => ⟨k0, A8, c8, l, rfl, rfl, hik0, hk0b, hls.no hW, hak, htk, hlk0, Fr.refl _ _⟩
        have HFR := Lib.hid hfr
        have HLT : Hid (i + 1 ≤ b.length) := hlt
        have HLT2 : Hid (i < b.length) := hlt
        generalize b[i].cl = cl at *
        generalize b[i].sq = sq at *
        clear hok hg hL q2 q3 q4 q5' q6' q7 q8 q9 hmem hke hat hk0b hik0 hlk0 hls hak htk hfr
        go_wp2_with fail
        (with_reducible refine HAK2.out.mono ?_)
        rintro e w7 ⟨rfl, hf7⟩
        have HI7 := Lib.hid (HIN.out _ hf7)
        have HF7 := Lib.hid (HFR.out.trans hf7)
        clear hf7 q0 q1 HIN HAK2 HFR
        generalize wr = wo at *
        go_wp2
        go_loopw [5, 7] (fun lv kv wr => InRel2 w7 b i lv kv wr) (fun _ kv _ => (intOf kv).toNat)
        case atStart => exact HI7.out
        case round =>
          obtain ⟨k, A9, c9, l2, rfl, rfl, hik, hkb, hls2, hak2, htk2, hlk2, hfr2⟩ := hrel
          have hk62 : (k : Int) ≤ 20 := by omega
          by_cases hgt : i < k
          · obtain ⟨m, hsw, hakm, htm, hmk, hml, hmm⟩ := step_ahead hak2 htk2 HLT2.out hlk2 hgt
            have hswi : swapI l2 ((k : Int) - 1) = some m := by
              unfold swapI
              rw [if_pos (by omega), show ((k : Int) - 1).toNat = k - 1 by omega]
              exact hsw
            have HS := Lib.hid (HSW.out wr A9 c9 l2 ((k : Int) - 1) hls2 hak2.1 (by unfold In64; omega))
            rw [hswi] at HS
            have HS2 : Hid (Calls Tryz.prog 13 #[.slice A9 b.length c9, .int .i64 ((k : Int) - 1)] wr (RetN2 wr m true)) := HS.out
            have HML : Hid (m.length = b.length) := hml.trans hak2.1
            have HMS : Hid (∀ W A c B0, OwnN B0 W (.slice A b.length c) m → Ls W Tr A c m) := fun W A c B0 h => by
              have h1 := hml.trans hak2.1
              rw [← h1] at h
              exact h.ls (by rw [hml]; exact hls2.n) (fun o ho => hls2.s o (hmm o ho))
            have HRS : Hid (Ak Od.id clashB m b ∧ m.take i = b.take i ∧ m[k - 1]? = b[i]?) := ⟨hakm, htm, hmk⟩
            have HFR2 := Lib.hid hfr2
            have HGT : Hid (i ≤ k - 1 ∧ k - 1 < b.length ∧ 0 < k) := by show _ ∧ _; omega
            have hgti : (i : Int) < (k : Int) := by omega
            have hkc : ((k - 1 : Nat) : Int) = (k : Int) - 1 := by omega
            clear hsw hakm htm hmk hml hmm hswi hls2 hak2 htk2 hlk2 hfr2 HS
            go_wp2_with fail
            (with_reducible refine HS2.out.mono ?_)
            rintro e w8 ⟨A10, c10, he, ho8, hf8, -⟩
            rw [HML.out] at he ho8
            subst he
            have HL8 := Lib.hid (HMS.out _ _ _ _ ho8)
            have HF8 := Lib.hid (HFR2.out.trans hf8)
            clear ho8 hf8 HS2 HMS
            go_wp2
            go_roundw
            case rel => exact ⟨k - 1, A10, c10, m, rfl, by rw [hkc], HGT.out.1, HGT.out.2.1, HL8.out, HRS.out.1, HRS.out.2.1, HRS.out.2.2, HF8.out⟩
            case measure => have := HGT.out.2.2; simp [intOf]; omega
          · obtain rfl : k = i := by omega
            have htk3 : l2.take (k + 1) = b.take (k + 1) := by
              have h1 : k < l2.length := by rw [hak2.1]; exact hkb
              rw [List.take_succ_eq_append_getElem h1, List.take_succ_eq_append_getElem hkb, htk2]
              rw [List.getElem?_eq_getElem h1, List.getElem?_eq_getElem hkb] at hlk2
              injection hlk2 with hlk2
              rw [hlk2]
            have HO : Hid (AlRel w6 b (.slice A9 b.length c9) (.int .i64 ((k + 1 : Nat) : Int)) wr) := ⟨k + 1, A9, c9, l2, rfl, rfl, HLT.out, hls2, hak2, htk3, HF7.out.trans hfr2⟩
            have hkc : ((k + 1 : Nat) : Int) = (k : Int) + 1 := by omega
            clear hls2 hak2 htk2 hlk2 htk3 hfr2
            go_wp2
            go_roundw
            case rel => rw [← hkc]; exact HO.out
            case measure => have := HLT.out; simp [intOf]; omega
      · obtain rfl : i = b.length := by omega
        have hlb : l = b := by
          have h1 := hak.1
          rw [List.take_length, List.take_of_length_le (by omega)] at htk
          exact htk
        subst hlb
        have HLl := Lib.hid hls
        have HLa7 := Lib.hid (HLa6.out.no hfr)
        have HLb7 := Lib.hid (HLb6.out.no hfr)
        have HF7 := Lib.hid (HF6.out.trans hfr)
        clear hls hak htk hfr HLa6 HLb6 HF6 HAT HSW HST
        go_wp2_with fail
        (with_reducible refine (HFA.out _ _ _ HLa7.out).mono ?_)
        rintro e w8 ⟨A9, c9, q9, rfl, hb9, hf8⟩
        have HB9 := Lib.hid hb9
        have HLl8 := Lib.hid (HLl.out.no hf8)
        have HLa8 := Lib.hid (HLa7.out.no hf8)
        have HLb8 := Lib.hid (HLb7.out.no hf8)
        have HF8 := Lib.hid (HF7.out.trans hf8)
        clear hb9 hf8 HLl HLa7 HLb7 HF7 HFA
        go_wp2_with fail
        (with_reducible refine (HFB.out _ _ _ HLb8.out).mono ?_)
        rintro e w9 ⟨A10, c10, q10, rfl, hb10, hf9⟩
        have HB10 := Lib.hid hb10
        have HB9b := Lib.hid (HB9.out.no hf9)
        have HLl9 := Lib.hid (HLl8.out.no hf9)
        have HLa9 := Lib.hid (HLa8.out.no hf9)
        have HLb9 := Lib.hid (HLb8.out.no hf9)
        have HF9 := Lib.hid (HF8.out.trans hf9)
        clear hb10 hf9 HLl8 HLa8 HLb8 HF8 HFB HB9
        go_wp2_with fail
        (with_reducible refine (HSM.out _ _ _ _ _ HLl9.out HLb9.out).mono ?_)
        rintro e w10 ⟨rfl, hf10⟩
        go_wp2_with fail
        (with_reducible refine (HBA.out _ _ _ _ _ (HLa9.out.no hf10) (HLb9.out.no hf10)).mono ?_)
        rintro e w11 ⟨rfl, hf11⟩
        have HX := Lib.hid (hf10.trans hf11)
        clear hf10 hf11
        go_wp2_with fail
        (with_reducible refine (HBS.out _ _ _ (HB9b.out.no HX.out) (HB10.out.no HX.out)).mono ?_)
        rintro e w12 ⟨rfl, hf12⟩
        go_wp2
        go_ret
        exact ⟨rfl, ((HF9.out.trans HX.out).trans hf12).belowNo⟩
end Go.Proofs.YtkkhdjchfhmliaaGreat
