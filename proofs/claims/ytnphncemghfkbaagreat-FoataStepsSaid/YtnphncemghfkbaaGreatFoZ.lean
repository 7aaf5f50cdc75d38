/- FoataSteps: the walk. -/
import Derived.Test.YtnphncemghfkbaaGreatFoY
import Derived.Test.YtnphncemghfkbaaGreatQ18
namespace Go.Proofs.YtnphncemghfkbaaGreat
open Go.RowKit Go.My Go.Maps Go.WideMaps
set_option linter.unusedSimpArgs false
set_option linter.unusedVariables false
attribute [local go_sem ↓] Go.wp_at_zero Go.wp_at_succ

/-- the steps of a list that may be; of another none: there is one such list of rows -/
def OneS (a : List Od) (S0 : List (List Od)) : Prop := ∀ S, (rightL a = true → StepsO a S) → (rightL a = false → S = []) → S = S0
theorem one_ex (a : List Od) : ∃ S0, OneS a S0 := by
  cases hr : rightL a
  · exact ⟨[], fun S _ h => h hr⟩
  · by_cases h : ∃ S, StepsO a S
    · obtain ⟨S, h⟩ := h
      exact ⟨S, fun T h1 _ => steps_uniq (h1 hr) h⟩
    · exact ⟨[], fun T h1 _ => absurd ⟨T, h1 hr⟩ h⟩
def expY (a : List Od) (S0 : List (List Od)) : List UInt8 := if expB a = true then stepsB S0 else []
def expN (a : List Od) : Int := if expB a = true then 0 else 1
theorem steps_form {w w' : World} {a : List Od} {S0 : List (List Od)} {e : Ending} (h0 : OneS a S0) (h : StepsRet w a e w') : ∃ A c, e = .returned (.slice A S0.length c) ∧ StS w' A S0 ∧ Fr No w w' ∧ (rightL a = true → StepsO a S0) ∧ (rightL a = false → S0 = []) := by
  obtain ⟨A, c, S, rfl, _, h1, h2, h3, h4⟩ := h
  obtain rfl := h0 S h3 h4
  exact ⟨A, c, rfl, h1, h2, h3, h4⟩
theorem exp_form {w w' : World} {a : List Od} {S0 : List (List Od)} {e : Ending} (h0 : OneS a S0) (h : ExpRet w a e w') : ∃ A c, e = .returned (.tuple #[.slice A (expY a S0).length c, .int .i64 (expN a)]) ∧ Own w' 5 1 (.slice A (expY a S0).length c) (expY a S0).length (bs (expY a S0)) ∧ Fr No w w' := by
  obtain ⟨hf, h1, h2⟩ := h
  cases he : expB a
  · have e1 : expY a S0 = [] := by unfold expY; rw [if_neg (by rw [he]; decide)]
    have e2 : expN a = 1 := by unfold expN; rw [if_neg (by rw [he]; decide)]
    rw [e1, e2]
    exact ⟨none, 0, h2 he, Own.nil _ _ _, hf⟩
  · obtain ⟨A, c, S, hS, rfl, ho⟩ := h1 he
    have hr : rightL a = true := (rightL_iff _).2 (expB_all he).2.1
    obtain rfl := h0 S (fun _ => hS) (fun h => (by rw [hr] at h; cases h))
    have e1 : expY a S = stepsB S := by unfold expY; rw [if_pos he]
    have e2 : expN a = 0 := by unfold expN; rw [if_pos he]
    rw [e1, e2]
    exact ⟨A, c, rfl, ho, hf⟩
theorem few_100 {l : List Od} {n : Nat} : ∀ o ∈ fewO l n, o.legs.length ≤ 100 := fun o ho => by
  unfold fewO at ho
  obtain ⟨x, _, rfl⟩ := List.mem_map.1 ho
  unfold Od.few8
  simp only [List.length_take]
  omega
set_option maxRecDepth 100000 in
set_option maxHeartbeats 2000000 in
theorem foataSteps_walk (A : Option Addr) (c : Nat) (la : List Od) (w : World) (ra : OdsS w w (Lt w.heap.size) A la) (ca : la.length ≤ c) (ma : c ≤ maxLen) :
    Calls Tryz.prog 3 #[.slice A la.length c] w fun e w' => e = .returned (.bool true) ∧ Below w.heap.size w w' := by
  have HLV : Hid (∀ W, _) := fun W => lives11 W
  have HA : Hid (∀ W, Fr No w W → Calls Tryz.prog 11 #[.slice A la.length c, .int .i64 ((60 : Nat) : Int)] W fun e w' => ∃ A1 c1, e = .returned (.slice A1 (fewO la 60).length c1) ∧ Ls w' Tr A1 c1 (fewO la 60) ∧ Fr No W w') := fun W hW => (few10_any w W _ A c la 60 (ra.fr hW (fun _ _ _ h => h)) ca ma (by omega)).mono fun e w1 h => by
    obtain ⟨A1, c1, rfl, ho, h1, h2, hf1⟩ := h
    exact ⟨A1, c1, rfl, ⟨(ho.up (hW.trans hf1)).more fun _ _ => trivial, by have := fewO_length la 60; omega, h1, few_s⟩, hf1⟩
  have hal : (fewO la 60).length ≤ 60 := by have := fewO_length la 60; omega
  obtain ⟨S0, h0⟩ : ∃ S0, OneS (fewO la 60) S0 := one_ex _
  have h100 := few_100 (l := la) (n := 60)
  clear ra ca ma
  generalize hga : fewO la 60 = a at *
  clear hga
  generalize la.length = na at *
  have HE1 : Hid (∀ W A c, Ls W Tr A c a → Calls Tryz.prog 12 #[.slice A a.length c] W fun e w' => ∃ A c, e = .returned (.tuple #[.slice A (expY a S0).length c, .int .i64 (expN a)]) ∧ Own w' 5 1 (.slice A (expY a S0).length c) (expY a S0).length (bs (expY a S0)) ∧ Fr No W w') := fun W A c h => (export_any W Tr A c a h).mono fun e w' h => exp_form h0 h
  have HE2 : Hid (∀ W A c, Ls W Tr A c a → Calls Tryz.prog 13 #[.slice A a.length c] W fun e w' => ∃ A c, e = .returned (.tuple #[.slice A (expY a S0).length c, .int .i64 (expN a)]) ∧ Own w' 5 1 (.slice A (expY a S0).length c) (expY a S0).length (bs (expY a S0)) ∧ Fr No W w') := fun W A c h => (refexport_any W Tr A c a h h100).mono fun e w' h => exp_form h0 h
  have HS1 : Hid (∀ W A c, Ls W Tr A c a → Calls Tryz.prog 14 #[.slice A a.length c] W fun e w' => ∃ A c, e = .returned (.slice A S0.length c) ∧ StS w' A S0 ∧ Fr No W w' ∧ (rightL a = true → StepsO a S0) ∧ (rightL a = false → S0 = [])) := fun W A c h => (steps_any W Tr A c a h (by omega)).mono fun e w' h => steps_form h0 h
  have HS2 : Hid (∀ W A c, Ls W Tr A c a → Calls Tryz.prog 16 #[.slice A a.length c] W fun e w' => ∃ A c, e = .returned (.slice A S0.length c) ∧ StS w' A S0 ∧ Fr No W w' ∧ (rightL a = true → StepsO a S0) ∧ (rightL a = false → S0 = [])) := fun W A c h => (refsteps_any W Tr A c a h (by omega)).mono fun e w' h => steps_form h0 h
  have HSTX : Hid ((rightL a = true → StepsO a S0) → (rightL a = false → S0 = []) → S0.length ≤ 60 ∧ (flatS S0).length ≤ 60 ∧ ∀ o ∈ flatS S0, o.legs.length ≤ 100000) := fun h1 h2 => by
    cases hr : rightL a
    · rw [h2 hr]
      exact ⟨by simp, by simp [flatS], fun o ho => by simp [flatS] at ho⟩
    · have h := h1 hr
      have hrt := (rightL_iff _).1 hr
      have k1 := stepsLen h
      have k2 := (ak_flat hrt h).1
      refine ⟨by omega, by omega, fun o ho => ?_⟩
      have := h100 o ((h.mem hrt.nodup o).1 ho)
      omega
  have HSM : Hid (∀ W A c B d, StS W A S0 → StS W B S0 → S0.length ≤ 60 → Calls Tryz.prog 15 #[.slice A S0.length c, .slice B S0.length d] W fun e w' => e = .returned (.bool true) ∧ Fr No W w') := fun W A c B d h1 h2 h3 => same11_eq W A B c d S0 h1 h2 (by omega)
  have HSB : Hid (∀ W A c B d (l : List UInt8), Own W 5 1 (.slice A l.length c) l.length (bs l) → Own W 5 1 (.slice B l.length d) l.length (bs l) → Calls Tryz.prog 17 #[.slice A l.length c, .slice B l.length d] W fun e w' => e = .returned (.bool true) ∧ W = w') := fun W A c B d l h1 h2 => by
    have h := sameB_any _ _ A B l.length c l.length d l l W h1.rd h2.rd
    simpa using h
  have HL1 : Hid (∀ W A c, StS W A S0 → S0.length ≤ 60 → (flatS S0).length ≤ 60 → (∀ o ∈ flatS S0, o.legs.length ≤ 100000) → Calls Tryz.prog 19 #[.slice A S0.length c] W fun e w' => ∃ A' c', e = .returned (.slice A' (flatS S0).length c') ∧ Ls w' Tr A' c' (flatS S0) ∧ Fr No W w') := fun W A c h1 h2 h3 h4 => by
    refine (lay_any A c S0 W h1 (by omega) (by omega) h4).mono ?_
    rintro e w' ⟨A', c', rfl, ho, hf, -⟩
    exact ⟨A', c', rfl, ho.ls (by omega) h4, hf⟩
  have HL2 : Hid (∀ W A c, StS W A S0 → S0.length ≤ 60 → (flatS S0).length ≤ 60 → (∀ o ∈ flatS S0, o.legs.length ≤ 100000) → Calls Tryz.prog 20 #[.slice A S0.length c] W fun e w' => ∃ A' c', e = .returned (.slice A' (flatS S0).length c') ∧ Ls w' Tr A' c' (flatS S0) ∧ Fr No W w') := fun W A c h1 h2 h3 h4 => by
    refine (reflay_any A c S0 W h1 (by omega) (by omega)).mono ?_
    rintro e w' ⟨v, rfl, ho, hf, -⟩
    obtain ⟨A', c', rfl, h5, h6⟩ := ho.form
    exact ⟨A', c', rfl, ⟨(ho.ods.up hf).more fun _ _ => trivial, by omega, h5, h4⟩, hf⟩
  have HSO : Hid (∀ W A c B d, Ls W Tr A c (flatS S0) → Ls W Tr B d (flatS S0) → Calls Tryz.prog 18 #[.slice A (flatS S0).length c, .slice B (flatS S0).length d] W fun e w' => e = .returned (.bool true) ∧ Fr No W w') := fun W A c B d h1 h2 => same10_eq W Tr Tr A B c d _ h1 h2
  clear h100 h0
  go_enter Tryz.func3, Tryz.ntmps3
  go_wp2_with fail
  (with_reducible refine (HLV.out _).mono ?_)
  rintro e w1 ⟨rfl, hf1⟩
  go_wp2_with fail
  refine (HA.out _ hf1).mono ?_
  rintro e w2 ⟨A2, c2, rfl, hl2, hf2⟩
  have HF2 := Lib.hid (hf1.trans hf2)
  have HL2' := Lib.hid hl2
  clear hf1 hf2 hl2 HA HLV
  go_wp2_with fail
  (with_reducible refine (HE1.out _ _ _ HL2'.out).mono ?_)
  rintro e w3 ⟨A3, c3, rfl, ho3, hf3⟩
  have HO3 := Lib.hid ho3
  have HL3 := Lib.hid (HL2'.out.no hf3)
  have HF3 := Lib.hid (HF2.out.trans hf3)
  clear ho3 hf3
  go_wp2_with fail
  (with_reducible refine (HE2.out _ _ _ HL3.out).mono ?_)
  rintro e w4 ⟨A4, c4, rfl, ho4, hf4⟩
  have HO34 := Lib.hid (HO3.out.fr hf4 (fun _ _ h => h))
  have HO4 := Lib.hid ho4
  have HL4 := Lib.hid (HL3.out.no hf4)
  have HF4 := Lib.hid (HF3.out.trans hf4)
  clear ho4 hf4
  go_wp2_with fail
  (with_reducible refine (HS1.out _ _ _ HL4.out).mono ?_)
  rintro e w5 ⟨A5, c5, rfl, hs5, hf5, hx1, hx2⟩
  obtain ⟨hn1, hn2, hn3⟩ := HSTX.out hx1 hx2
  have HN3 := Lib.hid hn3
  have HX5 := Lib.hid hs5
  have HO35 := Lib.hid (HO34.out.fr hf5 (fun _ _ h => h))
  have HO45 := Lib.hid (HO4.out.fr hf5 (fun _ _ h => h))
  have HL5 := Lib.hid (HL4.out.no hf5)
  have HF5 := Lib.hid (HF4.out.trans hf5)
  clear hs5 hf5 hx1 hx2 hn3
  go_wp2_with fail
  (with_reducible refine (HS2.out _ _ _ HL5.out).mono ?_)
  rintro e w6 ⟨A6, c6, rfl, hs6, hf6, -, -⟩
  have HX6 := Lib.hid hs6
  have HX56 := Lib.hid (HX5.out.no hf6)
  have HO36 := Lib.hid (HO35.out.fr hf6 (fun _ _ h => h))
  have HO46 := Lib.hid (HO45.out.fr hf6 (fun _ _ h => h))
  have HF6 := Lib.hid (HF5.out.trans hf6)
  clear hs6 hf6
  have HC7 := Lib.hid (HSM.out _ _ c5 _ c6 HX56.out HX6.out hn1)
  go_wp2_with fail
  (with_reducible refine HC7.out.mono ?_)
  rintro e w7 ⟨rfl, hf7⟩
  have HX7 := Lib.hid (HX56.out.no hf7)
  have HF7 := Lib.hid (HF6.out.trans hf7)
  have HC8 := Lib.hid (HSB.out _ _ c3 _ c4 _ (HO36.out.fr hf7 (fun _ _ h => h)) (HO46.out.fr hf7 (fun _ _ h => h)))
  clear hf7
  go_wp2_with fail
  (with_reducible refine HC8.out.mono ?_)
  rintro e w8 ⟨rfl, rfl⟩
  have HC9 := Lib.hid (HL1.out _ _ c5 HX7.out hn1 hn2 HN3.out)
  go_wp2_with fail
  (with_reducible refine HC9.out.mono ?_)
  rintro e w9 ⟨A9, c9, rfl, hl9, hf9⟩
  have HL9 := Lib.hid hl9
  have HF9 := Lib.hid (HF7.out.trans hf9)
  have HC10 := Lib.hid (HL2.out _ _ c5 (HX7.out.no hf9) hn1 hn2 HN3.out)
  clear hl9 hf9
  go_wp2_with fail
  (with_reducible refine HC10.out.mono ?_)
  rintro e w10 ⟨A10, c10, rfl, hl10, hf10⟩
  have HF10 := Lib.hid (HF9.out.trans hf10)
  have HC11 := Lib.hid (HSO.out _ _ c9 _ c10 (HL9.out.no hf10) hl10)
  clear hl10 hf10
  go_wp2_with fail
  (with_reducible refine HC11.out.mono ?_)
  rintro e w11 ⟨rfl, hf11⟩
  have HF11 := Lib.hid (HF10.out.trans hf11)
  clear hf11
  go_wp2
  go_ret
  exact ⟨rfl, HF11.out.belowNo⟩
end Go.Proofs.YtnphncemghfkbaaGreat
