/- ClashMeets: the walk. -/
import Derived.Test.YtkkhdjchfhmliaaClashP
namespace Go.Proofs.Ytkkhdjchfhmliaa
open Go.RowKit Go.My Go.Maps Go.WideMaps
set_option linter.unusedSimpArgs false
set_option linter.unusedVariables false
attribute [local go_sem ↓] Go.wp_at_zero Go.wp_at_succ

theorem meetB_iff {a b : List Od} (ha : Rt Od.id a) (hb : Rt Od.id b) : meetB a b = true ↔ Bg Od.id clashB b (meetO a b) := by
  unfold meetB
  rw [Bool.and_eq_true, beginsB_iff, beginsB_iff]
  exact ⟨fun h => h.2, fun h => ⟨Bg.meet_left ha hb, h⟩⟩
theorem meet_back {a b : List Od} (ha : Rt Od.id a) (hb : Rt Od.id b) (h : meetB a b = true) : meetB b a = true ∧ Bg Od.id clashB (meetO b a) (meetO a b) := by
  have h1 := (meetB_iff ha hb).1 h
  have h2 := Bg.meet clashB_comm h1 (Bg.meet_left (cl := clashB) ha hb)
  exact ⟨(meetB_iff hb ha).2 h2.1, h2.2⟩
theorem meetB_comm {a b : List Od} (ha : Rt Od.id a) (hb : Rt Od.id b) : meetB a b = meetB b a := by
  rw [Bool.eq_iff_iff]
  exact ⟨fun h => (meet_back ha hb h).1, fun h => (meet_back hb ha h).1⟩
theorem meet_alike {a b : List Od} (ha : Rt Od.id a) (hb : Rt Od.id b) (h : meetB a b = true) : alikeB (meetO a b) (meetO b a) = true := by
  have h1 := meet_back ha hb h
  have h2 := meet_back hb ha h1.1
  rw [alikeB_iff]
  exact ⟨Nat.le_antisymm h2.2.len_le h1.2.len_le, h2.2⟩
theorem out_take (a : List Od) (k : Nat) : outO a (a.take k) = [] := by
  unfold outO others
  rw [List.filter_eq_nil_iff]
  intro x hx
  simp only [decide_not, Bool.not_eq_true', decide_eq_false_iff_not, Decidable.not_not]
  exact List.mem_map_of_mem (List.mem_of_mem_take hx)
theorem meet_take {a : List Od} (ha : Rt Od.id a) (k : Nat) : meetB a (a.take k) = true ∧ retMeet a (a.take k) = a := by
  have e : meetO a (a.take k) = a := by unfold meetO; rw [out_take, List.append_nil]
  have h : meetB a (a.take k) = true := by
    unfold meetB
    rw [e, begins_refl ha, (beginsB_iff _ _).2 (Bg.take ha k)]
    rfl
  refine ⟨h, ?_⟩
  unfold retMeet
  rw [h, if_pos rfl, e]
theorem take_meet {a : List Od} (ha : Rt Od.id a) (k : Nat) : meetB (a.take k) a = true ∧ retMeet (a.take k) a = a := by
  have e : meetO (a.take k) a = a := others_take ha k
  have h : meetB (a.take k) a = true := by
    unfold meetB
    rw [e, begins_refl ha, (beginsB_iff _ _).2 (Bg.take ha k)]
    rfl
  refine ⟨h, ?_⟩
  unfold retMeet
  rw [h, if_pos rfl, e]
theorem Ls.takeL {w : World} {F : Nat → Prop} {A : Option Addr} {c : Nat} {l : List Od} (h : Ls w F A c l) {k : Nat} (hk : k ≤ l.length) : Ls w F A c (l.take k) ∧ (l.take k).length = k := by
  have e : (l.take k).length = k := by rw [List.length_take]; omega
  have h1 := h.n
  have h2 := h.c
  exact ⟨⟨h.ods.takeO k hk, by omega, by omega, fun o ho => h.s o (List.mem_of_mem_take ho)⟩, e⟩
theorem meet_s {a b : List Od} (ha : ∀ o ∈ a, o.legs.length ≤ 100000) (hb : ∀ o ∈ b, o.legs.length ≤ 100000) : ∀ o ∈ meetO a b, o.legs.length ≤ 100000 := fun o ho => by
  rcases List.mem_append.1 ho with ho | ho
  · exact ha o ho
  · exact hb o (mem_others.1 ho).1
theorem meet_len (a b : List Od) : (meetO a b).length ≤ a.length + b.length := by
  show (a ++ others Od.id a b).length ≤ _
  rw [List.length_append]
  have : (others Od.id a b).length ≤ b.length := List.length_filter_le _ _
  omega
set_option maxRecDepth 100000 in
set_option maxHeartbeats 2000000 in
theorem clashMeets_walk (A : Option Addr) (c : Nat) (la : List Od) (B : Option Addr) (d : Nat) (lb : List Od) (at_ : Int) (w : World) (ra : OdsS w w (Lt w.heap.size) A la) (ca : la.length ≤ c) (ma : c ≤ maxLen) (rb : OdsS w w (Lt w.heap.size) B lb) (cb : lb.length ≤ d) (mb : d ≤ maxLen) :
    Calls Try.prog 5 #[.slice A la.length c, .slice B lb.length d, .int .i64 at_] w fun e w' => e = .returned (.bool true) ∧ Below w.heap.size w w' := by
  have HLV : Hid (∀ W, _) := fun W => lives10 W
  have HA : Hid (∀ W, Fr No w W → _) := fun W hW => few_own w W A c 25 la ra ca ma (by omega) hW
  have HB : Hid (∀ W, Fr No w W → _) := fun W hW => few_own w W B d 25 lb rb cb mb (by omega) hW
  have HRA := Lib.hid (lawL_rt la 25)
  have HRB := Lib.hid (lawL_rt lb 25)
  have hal := lawL_len la 25
  have hbl := lawL_len lb 25
  clear ra rb ca cb ma mb
  generalize hga : lawL la 25 = a at *
  generalize hgb : lawL lb 25 = b at *
  clear hga hgb
  generalize la.length = na at *
  generalize lb.length = nb at *
  obtain ⟨k, hk, hkl⟩ := umod at_ (a.length + 1) (by omega) (by omega)
  have hka : k ≤ a.length := Nat.le_of_lt_succ hkl
  obtain ⟨hw1, hw2, hnz⟩ := len_succ (n := a.length) (Nat.le_trans hal (by decide))
  have HM : Hid (∀ W A c B d, Ls W Tr A c a → Ls W Tr B d b → Calls Try.prog 14 #[.slice A a.length c, .slice B b.length d] W (RetN2 W (retMeet a b) (meetB a b))) := fun W A c B d h1 h2 => meetC_any W Tr Tr A B c d a b h1 h2 (Nat.le_trans (Nat.add_le_add hal hbl) (by decide))
  have HN : Hid (∀ W A c B d, Ls W Tr A c a → Ls W Tr B d b → Calls Try.prog 14 #[.slice B b.length d, .slice A a.length c] W (RetN2 W (retMeet b a) (meetB b a))) := fun W A c B d h1 h2 => meetC_any W Tr Tr B A d c b a h2 h1 (Nat.le_trans (Nat.add_le_add hbl hal) (by decide))
  have HMT : Hid (∀ W A c, Ls W Tr A c a → Calls Try.prog 14 #[.slice A a.length c, .slice A k c] W fun e w' => ∃ A' c', e = .returned (.tuple #[.slice A' a.length c', .bool true]) ∧ Ls w' Tr A' c' a ∧ Fr No W w') := fun W A c h => by
    obtain ⟨h2, e⟩ := h.takeL hka
    have h3 := meetC_any W Tr Tr A A c c a (a.take k) h h2 (by rw [e]; exact Nat.le_trans (Nat.add_le_add hal (Nat.le_trans hka hal)) (by decide))
    rw [e, (meet_take HRA.out k).1, (meet_take HRA.out k).2] at h3
    refine h3.mono ?_
    rintro e w' ⟨A', c', h4, h5, h6, _⟩
    exact ⟨A', c', h4, h5.ls h.n h.s, h6⟩
  have HTM : Hid (∀ W A c, Ls W Tr A c a → Calls Try.prog 14 #[.slice A k c, .slice A a.length c] W fun e w' => ∃ A' c', e = .returned (.tuple #[.slice A' a.length c', .bool true]) ∧ Ls w' Tr A' c' a ∧ Fr No W w') := fun W A c h => by
    obtain ⟨h2, e⟩ := h.takeL hka
    have h3 := meetC_any W Tr Tr A A c c (a.take k) a h2 h (by rw [e]; exact Nat.le_trans (Nat.add_le_add (Nat.le_trans hka hal) hal) (by decide))
    rw [e, (take_meet HRA.out k).1, (take_meet HRA.out k).2] at h3
    refine h3.mono ?_
    rintro e w' ⟨A', c', h4, h5, h6, _⟩
    exact ⟨A', c', h4, h5.ls h.n h.s, h6⟩
  have HSM : Hid (∀ W A c B d, Ls W Tr A c a → Ls W Tr B d a → Calls Try.prog 18 #[.slice A a.length c, .slice B a.length d] W fun e w' => e = .returned (.bool true) ∧ Fr No W w') := fun W A c B d h1 h2 => same10_eq W Tr Tr A B c d a h1 h2
  have HAK : Hid (∀ W A c B d, Ls W Tr A c a → Ls W Tr B d a → Calls Try.prog 12 #[.slice A a.length c, .slice B a.length d] W fun e w' => e = .returned (.bool true) ∧ Fr No W w') := fun W A c B d h1 h2 => by
    have h := alikeC_any W Tr Tr A B c d a a h1 h2
    rw [(alikeB_iff _ _).2 (Ak.refl HRA.out)] at h
    exact h
  have HAM : Hid (meetB a b = true → ∀ W A c B d, Ls W Tr A c (meetO a b) → Ls W Tr B d (meetO b a) → Calls Try.prog 12 #[.slice A (meetO a b).length c, .slice B (meetO b a).length d] W fun e w' => e = .returned (.bool true) ∧ Fr No W w') := fun hm W A c B d h1 h2 => by
    have h := alikeC_any W Tr Tr A B c d (meetO a b) (meetO b a) h1 h2
    rw [meet_alike HRA.out HRB.out hm] at h
    exact h
  have HLM : Hid (∀ W A c B B0, Ls W Tr A c a → (∃ A d, Ls W Tr A d b) → OwnN B0 W (.slice B (meetO a b).length c) (meetO a b) → Ls W Tr B c (meetO a b)) := fun W A c B B0 h1 ⟨_, _, h2⟩ h3 => h3.ls (by have := meet_len a b; omega) (meet_s h1.s h2.s)
  have HLN : Hid (∀ W B d B0, (∃ A d, Ls W Tr A d a) → (∃ A d, Ls W Tr A d b) → OwnN B0 W (.slice B (meetO b a).length d) (meetO b a) → Ls W Tr B d (meetO b a)) := fun W B d B0 ⟨_, _, h1⟩ ⟨_, _, h2⟩ h3 => h3.ls (by have := meet_len b a; omega) (meet_s h2.s h1.s)
  have HLM2 : Hid (∀ W B d B0, (∃ A d, Ls W Tr A d a) → (∃ A d, Ls W Tr A d b) → OwnN B0 W (.slice B (meetO a b).length d) (meetO a b) → Ls W Tr B d (meetO a b)) := fun W B d B0 ⟨_, _, h1⟩ ⟨_, _, h2⟩ h3 => h3.ls (by have := meet_len a b; omega) (meet_s h1.s h2.s)
  have HCO := Lib.hid (meetB_comm HRA.out HRB.out)
  have hk' : wrap64 ((IntKind.u64.wrap at_).tmod ((a.length : Int) + 1)) = (k : Int) := hk
  have hal1 : (a.length : Int) + 1 ≤ 26 := by clear hk hk' hw1 hw2; omega
  have hka2 : (k : Int) ≤ a.length := by clear hk hk' hw1 hw2; omega
  unfold retMeet at HM HN
  clear hk hkl HLM
  rw [← HCO.out] at HN
  rcases (Bool.eq_false_or_eq_true (meetB a b)).symm with hm | hm
  · rw [hm] at HM HN
    rw [if_neg (by decide)] at HM HN
    clear hm HCO HAM HLM2 HLN HRA HRB
    generalize meetO a b = m at *
    generalize meetO b a = n at *
    go_enter Try.func5, Try.ntmps5
    go_wp2_with fail
    (with_reducible refine (HLV.out _).mono ?_)
    rintro e w1 ⟨rfl, hf1⟩
    go_wp2_with fail
    refine (HA.out _ hf1).mono ?_
    rintro e w2 ⟨A2, c2, m2, rfl, hf2, HA2⟩
    go_wp2_with fail
    (with_reducible refine (HA2 _ (Fr.refl _ _)).mono ?_)
    rintro e w3 ⟨A3, c3, rfl, hl3, hf3, hc3⟩
    clear HA2
    have HF3 := Lib.hid ((hf1.trans hf2).trans hf3)
    have HL3 := Lib.hid hl3
    have HC3 := Lib.hid hc3
    clear hf1 hf2 hf3 hl3 hc3
    go_wp2_with fail
    refine (HB.out _ HF3.out).mono ?_
    rintro e w4 ⟨A4, c4, m4, rfl, hf4, HB2⟩
    go_wp2_with fail
    (with_reducible refine (HB2 _ (Fr.refl _ _)).mono ?_)
    rintro e w5 ⟨A5, c5, rfl, hl5, hf5, -⟩
    clear HB2
    have HF5 := Lib.hid ((HF3.out.trans hf4).trans hf5)
    have HLa := Lib.hid ((HL3.out.no hf4).no hf5)
    have HLb := Lib.hid hl5
    clear hf4 hf5 hl5 HL3 HF3 HA HB HLV
    go_wp2_with fail
    (with_reducible refine (HM.out _ _ _ _ _ HLa.out HLb.out).mono ?_)
    rintro e w6 ⟨A6, c6, rfl, -, hf6, -⟩
    have HLa6 := Lib.hid (HLa.out.no hf6)
    have HLb6 := Lib.hid (HLb.out.no hf6)
    have HF6 := Lib.hid (HF5.out.trans hf6)
    clear hf6 HLa HLb HF5
    go_wp2_with fail
    (with_reducible refine (HN.out _ _ _ _ _ HLa6.out HLb6.out).mono ?_)
    rintro e w7 ⟨A7, c7, rfl, -, hf7, -⟩
    have HLa7 := Lib.hid (HLa6.out.no hf7)
    have HF7 := Lib.hid (HF6.out.trans hf7)
    have hkc : (k : Int) ≤ (c3 : Int) := by have := HLa7.out.c; clear hk' hw1 hw2; omega
    clear hf7 HLa6 HLb6 HF6 HM HN
    go_wp2_with fail
    (with_reducible refine (HMT.out _ _ _ HLa7.out).mono ?_)
    rintro e w10 ⟨A10, c10, rfl, hl10, hf10⟩
    have HL10 := Lib.hid hl10
    have HLa10 := Lib.hid (HLa7.out.no hf10)
    have HF10 := Lib.hid (HF7.out.trans hf10)
    clear hl10 hf10
    go_wp2_with fail
    (with_reducible refine (HTM.out _ _ _ HLa10.out).mono ?_)
    rintro e w11 ⟨A11, c11, rfl, hl11, hf11⟩
    have HL11 := Lib.hid hl11
    have HX11 := Lib.hid (HL10.out.no hf11)
    have HLa11 := Lib.hid (HLa10.out.no hf11)
    have HF11 := Lib.hid (HF10.out.trans hf11)
    clear hl11 hf11 HL10 HLa10 HF10
    go_wp2_with fail
    (with_reducible refine (HSM.out _ _ _ _ _ HX11.out HLa11.out).mono ?_)
    rintro e w12 ⟨rfl, hf12⟩
    have HY12 := Lib.hid (HL11.out.no hf12)
    have HLa12 := Lib.hid (HLa11.out.no hf12)
    have HF12 := Lib.hid (HF11.out.trans hf12)
    clear hf12 HL11 HX11 HLa11 HF11
    go_wp2_with fail
    (with_reducible refine (HAK.out _ _ _ _ _ HY12.out HLa12.out).mono ?_)
    rintro e w13 ⟨rfl, hf13⟩
    go_wp2
    go_ret
    exact ⟨rfl, (HF12.out.trans hf13).belowNo⟩

  · have HAM2 := Lib.hid (HAM.out hm)
    rw [hm] at HM HN
    rw [if_pos rfl] at HM HN
    clear hm HCO HAM HRA HRB
    generalize meetO a b = m at *
    generalize meetO b a = n at *
    go_enter Try.func5, Try.ntmps5
    go_wp2_with fail
    (with_reducible refine (HLV.out _).mono ?_)
    rintro e w1 ⟨rfl, hf1⟩
    go_wp2_with fail
    refine (HA.out _ hf1).mono ?_
    rintro e w2 ⟨A2, c2, m2, rfl, hf2, HA2⟩
    go_wp2_with fail
    (with_reducible refine (HA2 _ (Fr.refl _ _)).mono ?_)
    rintro e w3 ⟨A3, c3, rfl, hl3, hf3, hc3⟩
    clear HA2
    have HF3 := Lib.hid ((hf1.trans hf2).trans hf3)
    have HL3 := Lib.hid hl3
    have HC3 := Lib.hid hc3
    clear hf1 hf2 hf3 hl3 hc3
    go_wp2_with fail
    refine (HB.out _ HF3.out).mono ?_
    rintro e w4 ⟨A4, c4, m4, rfl, hf4, HB2⟩
    go_wp2_with fail
    (with_reducible refine (HB2 _ (Fr.refl _ _)).mono ?_)
    rintro e w5 ⟨A5, c5, rfl, hl5, hf5, -⟩
    clear HB2
    have HF5 := Lib.hid ((HF3.out.trans hf4).trans hf5)
    have HLa := Lib.hid ((HL3.out.no hf4).no hf5)
    have HLb := Lib.hid hl5
    clear hf4 hf5 hl5 HL3 HF3 HA HB HLV
    go_wp2_with fail
    (with_reducible refine (HM.out _ _ _ _ _ HLa.out HLb.out).mono ?_)
    rintro e w6 ⟨A6, c6, rfl, ho6, hf6, -⟩
    have HLa6 := Lib.hid (HLa.out.no hf6)
    have HLb6 := Lib.hid (HLb.out.no hf6)
    have HF6 := Lib.hid (HF5.out.trans hf6)
    have HM6 := Lib.hid (HLM2.out _ _ _ _ ⟨_, _, HLa6.out⟩ ⟨_, _, HLb6.out⟩ ho6)
    clear hf6 ho6 HLa HLb HF5
    go_wp2_with fail
    (with_reducible refine (HN.out _ _ _ _ _ HLa6.out HLb6.out).mono ?_)
    rintro e w7 ⟨A7, c7, rfl, ho7, hf7, -⟩
    have HLa7 := Lib.hid (HLa6.out.no hf7)
    have HLb7 := Lib.hid (HLb6.out.no hf7)
    have HF7 := Lib.hid (HF6.out.trans hf7)
    have HM7 := Lib.hid (HM6.out.no hf7)
    have HN7 := Lib.hid (HLN.out _ _ _ _ ⟨_, _, HLa7.out⟩ ⟨_, _, HLb7.out⟩ ho7)
    clear hf7 ho7 HLa6 HLb6 HF6 HM6 HM HN HLN HLM2
    go_wp2_with fail
    (with_reducible refine (HAM2.out _ _ _ _ _ HM7.out HN7.out).mono ?_)
    rintro e w8 ⟨rfl, hf8⟩
    have HLa8 := Lib.hid (HLa7.out.no hf8)
    have HF8 := Lib.hid (HF7.out.trans hf8)
    have hkc : (k : Int) ≤ (c3 : Int) := by have := HLa8.out.c; clear hk' hw1 hw2; omega
    clear hf8 HLa7 HLb7 HF7 HM7 HN7 HAM2
    go_wp2_with fail
    (with_reducible refine (HMT.out _ _ _ HLa8.out).mono ?_)
    rintro e w10 ⟨A10, c10, rfl, hl10, hf10⟩
    have HL10 := Lib.hid hl10
    have HLa10 := Lib.hid (HLa8.out.no hf10)
    have HF10 := Lib.hid (HF8.out.trans hf10)
    clear hl10 hf10
    go_wp2_with fail
    (with_reducible refine (HTM.out _ _ _ HLa10.out).mono ?_)
    rintro e w11 ⟨A11, c11, rfl, hl11, hf11⟩
    have HL11 := Lib.hid hl11
    have HX11 := Lib.hid (HL10.out.no hf11)
    have HLa11 := Lib.hid (HLa10.out.no hf11)
    have HF11 := Lib.hid (HF10.out.trans hf11)
    clear hl11 hf11 HL10 HLa10 HF10
    go_wp2_with fail
    (with_reducible refine (HSM.out _ _ _ _ _ HX11.out HLa11.out).mono ?_)
    rintro e w12 ⟨rfl, hf12⟩
    have HY12 := Lib.hid (HL11.out.no hf12)
    have HLa12 := Lib.hid (HLa11.out.no hf12)
    have HF12 := Lib.hid (HF11.out.trans hf12)
    clear hf12 HL11 HX11 HLa11 HF11
    go_wp2_with fail
    (with_reducible refine (HAK.out _ _ _ _ _ HY12.out HLa12.out).mono ?_)
    rintro e w13 ⟨rfl, hf13⟩
    go_wp2
    go_ret
    exact ⟨rfl, (HF12.out.trans hf13).belowNo⟩

end Go.Proofs.Ytkkhdjchfhmliaa
