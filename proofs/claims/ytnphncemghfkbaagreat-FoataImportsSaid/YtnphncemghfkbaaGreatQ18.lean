/- FoataAlike: the walk. FoataBack: the walk. -/
import Derived.Test.YtnphncemghfkbaaGreatQ17
namespace Go.Proofs.YtnphncemghfkbaaGreat
open Go.RowKit Go.My Go.Maps Go.WideMaps
set_option linter.unusedSimpArgs false
set_option linter.unusedVariables false
attribute [local go_sem ↓] Go.wp_at_zero Go.wp_at_succ

/-- few, then own -/
theorem few_own11 (w W : World) (A : Option Addr) (c n : Nat) (l : List Od) (hl : OdsS w w (Lt w.heap.size) A l) (hlc : l.length ≤ c) (hcm : c ≤ maxLen) (hn : n ≤ 1000) (hW : Fr No w W) :
    Calls Tryz.prog 11 #[.slice A l.length c, .int .i64 (n : Int)] W fun e w1 => ∃ A1 c1 m, e = .returned (.slice A1 m c1) ∧ Fr No W w1 ∧ ∀ W1, Fr No w1 W1 →
      Calls Tryz.prog 23 #[.slice A1 m c1] W1 fun e w2 => ∃ A2 c2, e = .returned (.slice A2 (lawL l n).length c2) ∧ Ls w2 Tr A2 c2 (lawL l n) ∧ Fr No W1 w2 ∧ c2 ≤ maxLen := by
  refine (few10_any w W _ A c l n (hl.fr hW (fun _ _ _ h => h)) hlc hcm hn).mono ?_
  rintro e w1 ⟨A1, c1, rfl, ho, h1, h2, hf1⟩
  refine ⟨A1, c1, _, rfl, hf1, fun W1 hW1 => ?_⟩
  refine (own10_any w W1 _ A1 c1 (fewO l n) (ho.fr hW1 (fun _ _ _ h => h)) (by have := fewO_length l n; omega)).mono ?_
  rintro e w2 ⟨A2, c2, rfl, ho2, h3, h4, hf2⟩
  exact ⟨A2, c2, rfl, lawL_ls ho2 (((hW.trans hf1).trans hW1).trans hf2) h3 hn, hf2, h4⟩
theorem OdsS.okL {w0 w : World} {F : Nat → Prop} {A : Option Addr} {l : List Od} (h : OdsS w0 w F A l) : ∀ o ∈ l, o.ok ∧ ∀ g ∈ o.legs, g.ok := fun o ho => by
  obtain ⟨cells, hr, hE⟩ := h
  obtain ⟨i, hi, rfl⟩ := List.getElem_of_mem ho
  obtain ⟨v, _, h1, h2, _⟩ := hE.2 i _ (List.getElem?_eq_getElem hi)
  exact ⟨h1, h2⟩
theorem good_of {o : Od} (h : rightO o = true) (h1 : o.ok) (h2 : ∀ g ∈ o.legs, g.ok) : Good o := by
  refine ⟨h, h1, fun g hg => (h2 g hg).2, ?_⟩
  have := obL_len o
  unfold obL at this
  rwa [if_pos h] at this
theorem expB_all {l : List Od} (h : expB l = true) : l.length ≤ 200 ∧ Rt Od.id l ∧ ∀ o ∈ l, rightO o = true := by
  unfold expB at h
  rw [Bool.and_eq_true, Bool.and_eq_true, decide_eq_true_eq, List.all_eq_true] at h
  exact ⟨h.1, (rightL_iff _).1 h.2.1, h.2.2⟩
theorem expB_of {l : List Od} (h1 : l.length ≤ 200) (h2 : Rt Od.id l) (h3 : ∀ o ∈ l, rightO o = true) : expB l = true := by
  unfold expB
  rw [decide_eq_true h1, (rightL_iff _).2 h2, List.all_eq_true.2 h3]
  rfl
theorem nB_pos (x : Int) : 0 < (nB x).length := by
  unfold nB enc
  unfold encF
  split <;> simp
theorem stepsB_pos (S : List (List Od)) : 0 < (stepsB S).length := by
  unfold stepsB
  rw [List.length_append]
  have := nB_pos (S.length : Int)
  omega
set_option maxRecDepth 100000 in
set_option maxHeartbeats 2000000 in
theorem foataAlike_walk (A : Option Addr) (c : Nat) (la : List Od) (B : Option Addr) (d : Nat) (lb : List Od) (w : World) (ra : OdsS w w (Lt w.heap.size) A la) (ca : la.length ≤ c) (ma : c ≤ maxLen) (rb : OdsS w w (Lt w.heap.size) B lb) (cb : lb.length ≤ d) (mb : d ≤ maxLen) :
    Calls Tryz.prog 5 #[.slice A la.length c, .slice B lb.length d] w fun e w' => e = .returned (.bool true) ∧ Below w.heap.size w w' := by
  have HLV : Hid (∀ W, _) := fun W => lives11 W
  have HA : Hid (∀ W, Fr No w W → _) := fun W hW => few_own11 w W A c 40 la ra ca ma (by omega) hW
  have HB : Hid (∀ W, Fr No w W → _) := fun W hW => few_own11 w W B d 40 lb rb cb mb (by omega) hW
  have HRA := Lib.hid (lawL_rt la 40)
  have HRB := Lib.hid (lawL_rt lb 40)
  have HLA := Lib.hid (lawL_len la 40)
  have HLB := Lib.hid (lawL_len lb 40)
  clear ra rb ca cb ma mb
  generalize hga : lawL la 40 = a at *
  generalize hgb : lawL lb 40 = b at *
  clear hga hgb
  generalize la.length = na at *
  generalize lb.length = nb at *
  have HEA : Hid (∀ W A c, Ls W Tr A c a → Calls Tryz.prog 12 #[.slice A a.length c] W (ExpRet W a)) := fun W A c h => export_any W Tr A c a h
  have HEB : Hid (∀ W A c, Ls W Tr A c b → Calls Tryz.prog 12 #[.slice A b.length c] W (ExpRet W b)) := fun W A c h => export_any W Tr A c b h
  have HAL : Hid (∀ W A c B d, Ls W Tr A c a → Ls W Tr B d b → Calls Tryz.prog 24 #[.slice A a.length c, .slice B b.length d] W fun e w' => e = .returned (.bool (alikeB a b)) ∧ Fr No W w') := fun W A c B d h1 h2 => alikeC_any W Tr Tr A B c d a b h1 h2
  have HSM : Hid (∀ W A c B d (l r : List UInt8), Own W 5 1 (.slice A l.length c) l.length (bs l) → Own W 5 1 (.slice B r.length d) r.length (bs r) → Calls Tryz.prog 17 #[.slice A l.length c, .slice B r.length d] W fun e w' => e = .returned (.bool (decide (l = r))) ∧ W = w') := fun W A c B d l r h1 h2 => sameB_any _ _ A B l.length c r.length d l r W h1.rd h2.rd
  have HIFF : Hid (∀ W A c B d S T, Ls W Tr A c a → Ls W Tr B d b → expB a = true → expB b = true → StepsO a S → StepsO b T → decide (stepsB S = stepsB T) = alikeB a b) := fun W A c B d S T h1 h2 h3 h4 h5 h6 => by
    obtain ⟨k1, k2, k3⟩ := expB_all h3
    obtain ⟨m1, m2, m3⟩ := expB_all h4
    have h := stepsB_alike k2 m2 h5 h6 (fun o ho => good_of (k3 o ho) (h1.ods.okL o ho).1 (h1.ods.okL o ho).2) (fun o ho => good_of (m3 o ho) (h2.ods.okL o ho).1 (h2.ods.okL o ho).2) k1 m1
    rw [Bool.eq_iff_iff, decide_eq_true_eq, h, alikeB_iff]
  have HPOS : Hid (∀ S, 0 < (stepsB S).length) := stepsB_pos
  have start : ∀ (P : World → Prop), True := fun _ => trivial
  clear start
  go_enter Tryz.func5, Tryz.ntmps5
  go_wp2_with fail
  (with_reducible refine (HLV.out _).mono ?_)
  rintro e w1 ⟨rfl, hf1⟩
  go_wp2_with fail
  refine (HA.out _ hf1).mono ?_
  rintro e w2 ⟨A2, c2, m2, rfl, hf2, HA2⟩
  go_wp2_with fail
  (with_reducible refine (HA2 _ (Fr.refl _ _)).mono ?_)
  rintro e w3 ⟨A3, c3, rfl, hl3, hf3, -⟩
  clear HA2
  have HF3 := Lib.hid ((hf1.trans hf2).trans hf3)
  have HL3 := Lib.hid hl3
  clear hf1 hf2 hf3 hl3
  go_wp2_with fail
  refine (HB.out _ HF3.out).mono ?_
  rintro e w4 ⟨A4, c4, m4, rfl, hf4, HB2⟩
  go_wp2_with fail
  (with_reducible refine (HB2 _ (Fr.refl _ _)).mono ?_)
  rintro e w5 ⟨A5, c5, rfl, hl5, hf5, -⟩
  clear HB2
  have HF5 := Lib.hid ((HF3.out.trans hf4).trans hf5)
  have HLa := Lib.hid ((HL3.out.no hf4).no hf5)
  have HLb := Lib.hid hl5
  clear hf4 hf5 hl5 HL3 HF3 HA HB HLV
  go_wp2_with fail
  (with_reducible refine (HEA.out _ _ _ HLa.out).mono ?_)
  rintro e w6 ⟨hf6, ht6, hb6⟩
  have HLa6 := Lib.hid (HLa.out.no hf6)
  have HLb6 := Lib.hid (HLb.out.no hf6)
  have HF6 := Lib.hid (HF5.out.trans hf6)
  clear hf6 HLa HLb HF5
  cases hea : expB a
  · obtain rfl := hb6 hea
    clear ht6 hb6
    go_wp2_with fail
    (with_reducible refine (HEB.out _ _ _ HLb6.out).mono ?_)
    rintro e w7 ⟨hf7, ht7, hb7⟩
    cases heb : expB b
    · obtain rfl := hb7 heb
      clear ht7 hb7
      go_wp2
      go_ret
      exact ⟨rfl, (HF6.out.trans hf7).belowNo⟩
    · obtain ⟨Ay, cy, T, -, rfl, -⟩ := ht7 heb
      clear ht7 hb7
      go_wp2
      go_ret
      exact ⟨rfl, (HF6.out.trans hf7).belowNo⟩
  · obtain ⟨Ax, cx, S, hS, rfl, hox⟩ := ht6 hea
    have HOX := Lib.hid hox
    have HSS := Lib.hid hS
    clear ht6 hb6 hox hS
    go_wp2_with fail
    (with_reducible refine (HEB.out _ _ _ HLb6.out).mono ?_)
    rintro e w7 ⟨hf7, ht7, hb7⟩
    have HF7 := Lib.hid (HF6.out.trans hf7)
    have HX7 := Lib.hid hf7
    clear hf7
    cases heb : expB b
    · obtain rfl := hb7 heb
      clear ht7 hb7
      have hp := HPOS.out S
      generalize (stepsB S).length = m at *
      have hm0 : ((m : Int) == 0) = false := beq_eq_false_iff_ne.2 (by omega)
      have hm1 : (m == 0) = false := beq_eq_false_iff_ne.2 (by omega)
      have hm2 : ¬ m = 0 := by omega
      go_wp2
      go_ret
      exact ⟨rfl, HF7.out.belowNo⟩
    · obtain ⟨Ay, cy, T, hT, rfl, hoy⟩ := ht7 heb
      have HE : Hid (decide (stepsB S = stepsB T) = alikeB a b) := HIFF.out w6 _ _ _ _ S T HLa6.out HLb6.out hea heb HSS.out hT
      have HS7 := Lib.hid (HSM.out w7 Ax cx Ay cy _ _ (HOX.out.fr HX7.out (fun _ _ h => h)) hoy)
      have HA7 := Lib.hid (HAL.out w7 _ _ _ _ (HLa6.out.no HX7.out) (HLb6.out.no HX7.out))
      rw [HE.out] at HS7
      generalize alikeB a b = r at *
      clear ht7 hb7 hT hoy hea heb HE
      generalize (stepsB S).length = m at *
      generalize (stepsB T).length = n at *
      go_wp2_with fail
      (with_reducible refine HS7.out.mono ?_)
      rintro e w8 ⟨rfl, rfl⟩
      go_wp2_with fail
      (with_reducible refine HA7.out.mono ?_)
      rintro e w9 ⟨rfl, hf9⟩
      go_wp2
      go_ret
      exact ⟨by simp, (HF7.out.trans hf9).belowNo⟩
end Go.Proofs.YtnphncemghfkbaaGreat

namespace Go.Proofs.YtnphncemghfkbaaGreat
open Go.RowKit Go.My Go.Maps Go.WideMaps
set_option linter.unusedSimpArgs false
set_option linter.unusedVariables false
attribute [local go_sem ↓] Go.wp_at_zero Go.wp_at_succ

theorem ak_flat {l : List Od} {S : List (List Od)} (hl : Rt Od.id l) (h : StepsO l S) : Ak Od.id clashB l (flatS S) := h.lay clashB_comm ltI_irr hl
/-- what is laid out is exported as the steps' bytes -/
theorem exp_lay {S : List (List Od)} (hn : NormalO S) (hl : (flatS S).length ≤ 200) (hr : ∀ o ∈ flatS S, rightO o = true) : expB (flatS S) = true ∧ ∀ T, StepsO (flatS S) T → T = S := ⟨expB_of hl hn.1 hr, fun T hT => steps_uniq hT hn.2⟩
theorem ordsB_len : ∀ (s : List Od), (∀ o ∈ s, (bytesO o).length ≤ 1000) → (ordsB s).length ≤ 1020 * s.length
  | [], _ => by simp [ordsB]
  | o :: s, h => by
    have h1 := ordsB_len s fun x hx => h x (List.mem_cons_of_mem _ hx)
    have h2 := tB_len' (bytesO o)
    have h3 := h o List.mem_cons_self
    unfold ordsB at h1 ⊢
    rw [List.flatMap_cons, List.length_append, List.length_cons]
    omega
theorem rowsB_len : ∀ (S : List (List Od)), (∀ s ∈ S, ∀ o ∈ s, (bytesO o).length ≤ 1000) → (rowsB S).length ≤ 20 * S.length + 1020 * (flatS S).length
  | [], _ => by simp [rowsB]
  | s :: S, h => by
    have h1 := rowsB_len S fun x hx => h x (List.mem_cons_of_mem _ hx)
    have h2 := ordsB_len s (h s List.mem_cons_self)
    have h3 := nB_len (s.length : Int)
    unfold rowsB flatS at h1 ⊢
    rw [List.flatMap_cons, List.length_append, List.length_cons, List.flatten_cons, List.length_append]
    unfold stepB at h1 ⊢
    rw [List.length_append]
    omega
theorem stepsLen {l : List Od} {S : List (List Od)} (h : StepsO l S) : S.length ≤ l.length := by
  rw [h.length, topL_levN]
  exact maxN_le fun n hn => (levN_le clashB l n hn).2
set_option maxRecDepth 100000 in
set_option maxHeartbeats 4000000 in
theorem foataBack_walk (A : Option Addr) (c : Nat) (la : List Od) (B : Option Addr) (d : Nat) (lb : List UInt8) (w : World) (ra : OdsS w w (Lt w.heap.size) A la) (ca : la.length ≤ c) (ma : c ≤ maxLen) (rb : Rd w (Lt w.heap.size) 1 B lb.length (bs lb)) (cb : lb.length ≤ d) (mb : d ≤ maxLen) :
    Calls Tryz.prog 6 #[.slice A la.length c, .slice B lb.length d] w fun e w' => e = .returned (.bool true) ∧ Below w.heap.size w w' := by
  have HLV : Hid (∀ W, _) := fun W => lives11 W
  have HA : Hid (∀ W, Fr No w W → _) := fun W hW => few_own11 w W A c 60 la ra ca ma (by omega) hW
  have HRA := Lib.hid (lawL_rt la 60)
  have HLA := Lib.hid (lawL_len la 60)
  clear ra ca ma
  generalize hga : lawL la 60 = a at *
  clear hga
  generalize la.length = na at *
  -- the bytes' beginning
  obtain ⟨b, hbe⟩ : ∃ b, lb.take 3000 = b := ⟨_, rfl⟩
  have hbl : b.length = min lb.length 3000 := by rw [← hbe, List.length_take]; omega
  have HRB : Hid (∀ W, Fr No w W → Rd W (Lt w.heap.size) 1 B b.length (bs b)) := fun W hW => by
    have h1 := rb.take (k := b.length) (by omega)
    have h2 : (bs lb).take (b.length * 1) = bs b := by
      rw [← hbe, bs_take, Nat.mul_one, List.take_eq_take_iff, bs_length, List.length_take]
      omega
    rw [h2] at h1
    exact h1.fr (by omega) hW (fun _ _ _ h => h)
  have hmn : (min (lb.length : Int) 3000).toNat = b.length := by omega
  have hmx : 0 ≤ min (lb.length : Int) 3000 ∧ min (lb.length : Int) 3000 ≤ (d : Int) := ⟨by omega, by omega⟩
  have hb3 : b.length ≤ 3000 := by omega
  clear rb cb mb hbe hbl
  generalize lb.length = nb at *
  have HIMP : Hid (∀ W, Fr No w W → Calls Tryz.prog 21 #[.slice B b.length d] W (ImpRet W b)) := fun W hW => import_any W _ B d b (HRB.out W hW) (by omega)
  have HEA : Hid (∀ W A c, Ls W Tr A c a → Calls Tryz.prog 12 #[.slice A a.length c] W (ExpRet W a)) := fun W A c h => export_any W Tr A c a h
  have HT1 : Hid (∀ x T W A c, rsteps x = some T → NormalO T → StS W A T → Calls Tryz.prog 19 #[.slice A (T : List (List Od)).length c] W fun e w' => ∃ A' c', e = .returned (.slice A' (flatS T).length c') ∧ Ls w' Tr A' c' (flatS T) ∧ Fr No W w') := fun x T W A c h1 h2 h3 => by
    obtain ⟨k1, k2, k3⟩ := rsteps_only h1
    have k4 : (flatS T).length ≤ 200 := k2
    have k5 : T.length ≤ (flatS T).length := by
      clear k2 k3 k4 h1 h2 h3
      induction T with
      | nil => simp
      | cons s S ih =>
        have h := List.length_pos_iff.2 (k1 s List.mem_cons_self).1
        have h2 := ih fun x hx => k1 x (List.mem_cons_of_mem _ hx)
        unfold flatS at h2 ⊢
        rw [List.flatten_cons, List.length_append, List.length_cons]
        omega
    have k6 : ∀ o ∈ flatS T, o.legs.length ≤ 100000 := fun o ho => by
      obtain ⟨s, hs, ho⟩ := List.mem_flatten.1 ho
      have := (right_short ((k1 s hs).2 o ho)).legs
      omega
    refine (lay_any A c T W h3 (by omega) (by omega) k6).mono ?_
    rintro e w' ⟨A', c', rfl, ho, hf, -⟩
    exact ⟨A', c', rfl, ho.ls (by omega) k6, hf⟩
  have HT2 : Hid (∀ x T W A c, rsteps x = some T → NormalO T → Ls W Tr A c (flatS T) → Calls Tryz.prog 12 #[.slice A (flatS (T : List (List Od))).length c] W fun e w' => ∃ A' c', e = .returned (.tuple #[.slice A' x.length c', .int .i64 0]) ∧ Own w' 5 1 (.slice A' x.length c') x.length (bs x) ∧ Fr No W w') := fun x T W A c h1 h2 h3 => by
    obtain ⟨k1, k2, k3⟩ := rsteps_only h1
    obtain ⟨k5, k6⟩ := exp_lay h2 k2 (fun o ho => by
      obtain ⟨s, hs, ho⟩ := List.mem_flatten.1 ho
      exact (k1 s hs).2 o ho)
    refine (export_any W Tr A c _ h3).mono ?_
    rintro e w' ⟨hf, hyes, -⟩
    obtain ⟨A', c', T', hT', rfl, ho⟩ := hyes k5
    have := k6 T' hT'
    subst this
    rw [← k3] at ho ⊢
    exact ⟨A', c', rfl, ho, hf⟩
  have HSM : Hid (∀ W A c B d (l : List UInt8) F, Own W 5 1 (.slice A l.length c) l.length (bs l) → Rd W F 1 B l.length (bs l) → Calls Tryz.prog 17 #[.slice A l.length c, .slice B l.length d] W fun e w' => e = .returned (.bool true) ∧ W = w') := fun W A c B d l F h1 h2 => sameB_eq _ _ A B l.length c l.length d l l W rfl h1.rd h2
  have HIX : Hid (∀ S W A c A0 c0, Ls W Tr A0 c0 a → expB a = true → StepsO a S → Own W 5 1 (.slice A (stepsB S).length c) (stepsB S).length (bs (stepsB S)) → rsteps (stepsB S) = some S ∧ NormalO S ∧ Calls Tryz.prog 21 #[.slice A (stepsB S).length c] W fun e w' => ∃ A' c', e = .returned (.tuple #[.slice A' S.length c', .int .i64 0]) ∧ StS w' A' S ∧ Fr No W w') := fun S W A c A0 c0 h0 h1 h2 h3 => by
    obtain ⟨k1, k2, k3⟩ := expB_all h1
    obtain ⟨m1, m2⟩ := import_export k2 k1 h2 (fun o ho => good_of (k3 o ho) (h0.ods.okL o ho).1 (h0.ods.okL o ho).2)
    refine ⟨m1, m2, ?_⟩
    have hle : (stepsB S).length ≤ 140737488355328 := by
      have g1 : (flatS S).length = a.length := (ak_flat k2 h2).1.symm
      have g2 := stepsLen h2
      have g3 := rowsB_len S fun s hs o ho => (good_of (k3 o ?_) (h0.ods.okL o ?_).1 (h0.ods.okL o ?_).2).2.2.2
      · have g4 := nB_len (S.length : Int)
        unfold stepsB
        rw [List.length_append]
        omega
      all_goals exact (h2.mem k2.nodup o).1 (List.mem_flatten.2 ⟨s, hs, ho⟩)
    refine (import_any W _ A c (stepsB S) h3.rd hle).mono ?_
    rintro e w' ⟨hf, ⟨A', c', T, hT, _, rfl, hS, _⟩ | ⟨hno, _⟩⟩
    · rw [m1] at hT
      injection hT with hT
      subst hT
      exact ⟨A', c', rfl, hS, hf⟩
    · exact absurd m2 (hno S m1)
  have HAK : Hid (∀ S W A c B d, StepsO a S → Ls W Tr A c a → Ls W Tr B d (flatS S) → Calls Tryz.prog 24 #[.slice A a.length c, .slice B (flatS S).length d] W fun e w' => e = .returned (.bool true) ∧ Fr No W w') := fun S W A c B d h0 h1 h2 => by
    have h := alikeC_any W Tr Tr A B c d a (flatS S) h1 h2
    rw [(alikeB_iff _ _).2 (ak_flat HRA.out h0)] at h
    exact h
  have HNM : Hid (∀ S W A c, NormalO S → rsteps (stepsB S) = some S → StS W A S → Calls Tryz.prog 25 #[.slice A S.length c] W fun e w' => e = .returned (.bool true) ∧ Fr No W w') := fun S W A c h1 h2 h3 => by
    obtain ⟨k1, k2, k3⟩ := rsteps_only h2
    have k5 : S.length ≤ 200 := by
      have := stepsLen h1.2
      have h4 : S.flatten.length ≤ 200 := k2
      omega
    have h := normal_any W A c S h3 (by omega) (by have h4 : (flatS S).length ≤ 200 := k2; omega) (fun o ho => by
      obtain ⟨s, hs, ho⟩ := List.mem_flatten.1 ho
      have := (right_short ((k1 s hs).2 o ho)).legs
      omega)
    refine Calls.mono h ?_
    rintro e w' ⟨r, h5, h6, h7⟩
    rw [h6.2 h1] at h5
    exact ⟨h5, h7⟩
  go_enter Tryz.func6, Tryz.ntmps6
  go_wp2_with fail
  (with_reducible refine (HLV.out _).mono ?_)
  rintro e w1 ⟨rfl, hf1⟩
  go_wp2_with fail
  refine (HA.out _ hf1).mono ?_
  rintro e w2 ⟨A2, c2, m2, rfl, hf2, HA2⟩
  go_wp2_with fail
  (with_reducible refine (HA2 _ (Fr.refl _ _)).mono ?_)
  rintro e w3 ⟨A3, c3, rfl, hl3, hf3, -⟩
  clear HA2
  have HF3 := Lib.hid ((hf1.trans hf2).trans hf3)
  have HL3 := Lib.hid hl3
  clear hf1 hf2 hf3 hl3 HA HLV
  go_wp2_with fail
  (with_reducible refine (HEA.out _ _ _ HL3.out).mono ?_)
  rintro e w6 ⟨hf6, ht6, hb6⟩
  have HF6 := Lib.hid (HF3.out.trans hf6)
  have HL6 := Lib.hid (HL3.out.no hf6)
  clear hf6 HL3 HF3 HEA
  cases hea : expB a
  · obtain rfl := hb6 hea
    clear ht6 hb6 hea
    have HIM := Lib.hid (HIMP.out w6 HF6.out)
    go_wp2_with fail
    (with_reducible refine HIM.out.mono ?_)
    rintro e w20 ⟨hf20, ⟨A20, c20, T, hT, hNT, rfl, hS20, -⟩ | ⟨-, rfl⟩⟩
    · have HF20 := Lib.hid (HF6.out.trans hf20)
      have HS20 := Lib.hid hS20
      have HTT : Hid (rsteps b = some T ∧ NormalO T) := ⟨hT, hNT⟩
      clear hf20 hS20 hT hNT
      go_wp2_with fail
      (with_reducible refine (HT1.out b T _ _ _ HTT.out.1 HTT.out.2 HS20.out).mono ?_)
      rintro e w21 ⟨A21, c21, rfl, hl21, hf21⟩
      have HF21 := Lib.hid (HF20.out.trans hf21)
      go_wp2_with fail
      (with_reducible refine (HT2.out b T _ _ _ HTT.out.1 HTT.out.2 hl21).mono ?_)
      rintro e w22 ⟨A22, c22, rfl, ho22, hf22⟩
      have HF22 := Lib.hid (HF21.out.trans hf22)
      have HSB := Lib.hid (HSM.out w22 A22 c22 B d b _ ho22 (HRB.out w22 HF22.out))
      clear hf21 hf22 ho22 hl21
      go_wp2_with fail
      (with_reducible refine HSB.out.mono ?_)
      rintro e w23 ⟨rfl, rfl⟩
      go_wp2
      go_ret
      exact ⟨rfl, HF22.out.belowNo⟩
    · go_wp2
      go_ret
      exact ⟨rfl, (HF6.out.trans hf20).belowNo⟩
  · obtain ⟨Ax, cx, S, hS, rfl, hox⟩ := ht6 hea
    obtain ⟨hr1, hr2, hr3⟩ := HIX.out S w6 Ax cx A3 c3 HL6.out hea hS hox
    have HOX := Lib.hid hox
    have HSS := Lib.hid hS
    have HR1 := Lib.hid hr1
    have HR2 := Lib.hid hr2
    have HR3 := Lib.hid hr3
    clear ht6 hb6 hox hS hr1 hr2 hr3 HIX hea
    go_wp2_with fail
    (with_reducible refine HR3.out.mono ?_)
    rintro e w7 ⟨A7, c7, rfl, hs7, hf7⟩
    have HS7 := Lib.hid hs7
    have HO7 := Lib.hid (HOX.out.fr hf7 (fun _ _ h => h))
    have HL7 := Lib.hid (HL6.out.no hf7)
    have HF7 := Lib.hid (HF6.out.trans hf7)
    clear hs7 hf7 HOX HL6 HF6 HR3
    go_wp2_with fail
    (with_reducible refine (HT1.out _ S _ _ _ HR1.out HR2.out HS7.out).mono ?_)
    rintro e w8 ⟨A8, c8, rfl, hl8, hf8⟩
    have HS8 := Lib.hid (HS7.out.no hf8)
    have HO8 := Lib.hid (HO7.out.fr hf8 (fun _ _ h => h))
    have HL8 := Lib.hid (HL7.out.no hf8)
    have HF8 := Lib.hid (HF7.out.trans hf8)
    have HX8 := Lib.hid hl8
    clear hf8 hl8 HS7 HO7 HL7 HF7
    go_wp2_with fail
    (with_reducible refine (HT2.out _ S _ _ _ HR1.out HR2.out HX8.out).mono ?_)
    rintro e w9 ⟨A9, c9, rfl, ho9, hf9⟩
    have HS9 := Lib.hid (HS8.out.no hf9)
    have HO9 := Lib.hid (HO8.out.fr hf9 (fun _ _ h => h))
    have HL9 := Lib.hid (HL8.out.no hf9)
    have HF9 := Lib.hid (HF8.out.trans hf9)
    have HY9 := Lib.hid ho9
    clear hf9 ho9 HS8 HO8 HL8 HF8 HX8
    go_wp2_with fail
    (with_reducible refine (HSM.out _ _ _ _ _ _ _ HO9.out HY9.out.rd).mono ?_)
    rintro e w10 ⟨rfl, rfl⟩
    go_wp2_with fail
    (with_reducible refine (HT1.out _ S _ _ _ HR1.out HR2.out HS9.out).mono ?_)
    rintro e w11 ⟨A11, c11, rfl, hl11, hf11⟩
    have HS11 := Lib.hid (HS9.out.no hf11)
    have HL11 := Lib.hid (HL9.out.no hf11)
    have HF11 := Lib.hid (HF9.out.trans hf11)
    have HX11 := Lib.hid hl11
    clear hf11 hl11 HS9 HO9 HL9 HF9 HY9
    go_wp2_with fail
    (with_reducible refine (HAK.out S _ _ _ _ _ HSS.out HL11.out HX11.out).mono ?_)
    rintro e w12 ⟨rfl, hf12⟩
    have HS12 := Lib.hid (HS11.out.no hf12)
    have HF12 := Lib.hid (HF11.out.trans hf12)
    clear hf12 HS11 HF11 HL11 HX11
    go_wp2_with fail
    (with_reducible refine (HNM.out S _ _ _ HR2.out HR1.out HS12.out).mono ?_)
    rintro e w13 ⟨rfl, hf13⟩
    have HF13 := Lib.hid (HF12.out.trans hf13)
    clear hf13 HS12 HF12
    have HIM := Lib.hid (HIMP.out w13 HF13.out)
    go_wp2_with fail
    (with_reducible refine HIM.out.mono ?_)
    rintro e w20 ⟨hf20, ⟨A20, c20, T, hT, hNT, rfl, hS20, -⟩ | ⟨-, rfl⟩⟩
    · have HF20 := Lib.hid (HF13.out.trans hf20)
      have HS20 := Lib.hid hS20
      have HTT : Hid (rsteps b = some T ∧ NormalO T) := ⟨hT, hNT⟩
      clear hf20 hS20 hT hNT
      go_wp2_with fail
      (with_reducible refine (HT1.out b T _ _ _ HTT.out.1 HTT.out.2 HS20.out).mono ?_)
      rintro e w21 ⟨A21, c21, rfl, hl21, hf21⟩
      have HF21 := Lib.hid (HF20.out.trans hf21)
      go_wp2_with fail
      (with_reducible refine (HT2.out b T _ _ _ HTT.out.1 HTT.out.2 hl21).mono ?_)
      rintro e w22 ⟨A22, c22, rfl, ho22, hf22⟩
      have HF22 := Lib.hid (HF21.out.trans hf22)
      have HSB := Lib.hid (HSM.out w22 A22 c22 B d b _ ho22 (HRB.out w22 HF22.out))
      clear hf21 hf22 ho22 hl21
      go_wp2_with fail
      (with_reducible refine HSB.out.mono ?_)
      rintro e w23 ⟨rfl, rfl⟩
      go_wp2
      go_ret
      exact ⟨rfl, HF22.out.belowNo⟩
    · go_wp2
      go_ret
      exact ⟨rfl, (HF13.out.trans hf20).belowNo⟩
end Go.Proofs.YtnphncemghfkbaaGreat
