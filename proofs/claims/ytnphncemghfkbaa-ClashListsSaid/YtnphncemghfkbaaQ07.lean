/- ClashLists: the walk. -/
import Derived.Test.YtnphncemghfkbaaQ06
import Derived.Test.YtnphncemghfkbaaQ03
namespace Go.Proofs.Ytnphncemghfkbaa
open Go.RowKit Go.My Go.Maps Go.WideMaps
set_option linter.unusedSimpArgs false
set_option linter.unusedVariables false
attribute [local go_sem ↓] Go.wp_at_zero Go.wp_at_succ

theorem lsN_of {B : Nat} {w : World} {A : Option Addr} {c : Nat} {l : List Od} (h : OwnN B w (.slice A l.length c) l) (hn : l.length ≤ 1000000) (hs : ∀ o ∈ l, o.legs.length ≤ 100000) : Ls w Tr A c l := by
  obtain ⟨A2, c2, e2, hc1, hc2⟩ := h.form
  injection e2 with e3 e4 e5
  subst e3 e5
  exact ⟨h.ods.more fun _ _ => trivial, hn, hc1, hs⟩
theorem few_sX {l : List Od} {n : Nat} : ∀ o ∈ fewO l n, o.legs.length ≤ 100000 := fun o ho => by
  unfold fewO at ho
  obtain ⟨x, _, rfl⟩ := List.mem_map.1 ho
  unfold Od.few8
  simp only [List.length_take]
  omega
def ClRel (w : World) (n m : Nat) (iv : Value) (wr : World) : Prop := ∃ i : Nat, i ≤ n ∧ iv = .int .i64 (i : Nat) ∧ Fr No w wr
set_option maxRecDepth 100000 in
set_option maxHeartbeats 4000000 in
theorem clashLists_walk (A : Option Addr) (c : Nat) (la : List Od) (B : Option Addr) (d : Nat) (lb : List Od) (w : World) (ra : OdsS w w (Lt w.heap.size) A la) (ca : la.length ≤ c) (ma : c ≤ maxLen) (rb : OdsS w w (Lt w.heap.size) B lb) (cb : lb.length ≤ d) (mb : d ≤ maxLen) :
    Calls Try.prog 3 #[.slice A la.length c, .slice B lb.length d] w fun e w' => e = .returned (.bool true) ∧ Below w.heap.size w w' := by
  have HLV : Hid (∀ W, _) := fun W => lives10 W
  have HA : Hid (∀ W, Fr No w W → Calls Try.prog 5 #[.slice A la.length c, .int .i64 ((30 : Nat) : Int)] W (LsRet W (fewO la 30))) := fun W hW => (few10_any w W _ A c la 30 (ra.fr hW (fun _ _ _ h => h)) ca ma (by omega)).mono fun e w1 h => by
    obtain ⟨A1, c1, rfl, ho, h1, h2, hf1⟩ := h
    exact ⟨A1, c1, rfl, ⟨(upX ho (hW.trans hf1)).more fun _ _ => trivial, by have := fewO_length la 30; omega, h1, few_sX⟩, hf1⟩
  have HB : Hid (∀ W, Fr No w W → Calls Try.prog 5 #[.slice B lb.length d, .int .i64 ((30 : Nat) : Int)] W (LsRet W (fewO lb 30))) := fun W hW => (few10_any w W _ B d lb 30 (rb.fr hW (fun _ _ _ h => h)) cb mb (by omega)).mono fun e w1 h => by
    obtain ⟨A1, c1, rfl, ho, h1, h2, hf1⟩ := h
    exact ⟨A1, c1, rfl, ⟨(upX ho (hW.trans hf1)).more fun _ _ => trivial, by have := fewO_length lb 30; omega, h1, few_sX⟩, hf1⟩
  have hal : (fewO la 30).length ≤ 30 := by have := fewO_length la 30; omega
  have hbl : (fewO lb 30).length ≤ 30 := by have := fewO_length lb 30; omega
  have HSA := Lib.hid (few_sX (l := la) (n := 30))
  have HSB := Lib.hid (few_sX (l := lb) (n := 30))
  clear ra rb ca cb ma mb
  generalize hga : fewO la 30 = a at *
  generalize hgb : fewO lb 30 = b at *
  clear hga hgb
  generalize la.length = na at *
  generalize lb.length = nb at *
  have HOL : Hid ((outO a b).length ≤ 30) := Nat.le_trans (outO_len a b) hbl
  have HMS : Hid ((retMeet a b).length ≤ 1000000 ∧ ∀ o ∈ retMeet a b, o.legs.length ≤ 100000) := by
    show _ ∧ _
    unfold retMeet
    split
    · refine ⟨?_, fun o ho => ?_⟩
      · have := HOL.out
        unfold meetO
        rw [List.length_append]
        omega
      · unfold meetO outO at ho
        rcases List.mem_append.1 ho with ho | ho
        · exact HSA.out o ho
        · exact HSB.out o (mem_others.1 ho).1
    · exact ⟨by simp, fun o ho => by cases ho⟩
  have HRS : Hid ((restO a b).length ≤ 1000000 ∧ ∀ o ∈ restO a b, o.legs.length ≤ 100000) := by
    show _ ∧ _
    unfold restO
    split
    · exact ⟨by have := HOL.out; omega, fun o ho => by unfold outO at ho; exact HSB.out o (mem_others.1 ho).1⟩
    · exact ⟨by simp, fun o ho => by cases ho⟩
  have HM1 : Hid (∀ W A c B d, Ls W Tr A c a → Ls W Tr B d b → Calls Try.prog 8 #[.slice A a.length c, .slice B b.length d] W (LsRet2 W (retMeet a b) (meetB a b))) := fun W A c B d h1 h2 => (meetC_any W Tr Tr A B c d a b h1 h2 (by omega)).mono fun e w' ⟨A', c', h4, h5, h6, _⟩ => ⟨A', c', h4, lsN_of h5 HMS.out.1 HMS.out.2, h6⟩
  have HM2 : Hid (∀ W A c B d, Ls W Tr A c a → Ls W Tr B d b → Calls Try.prog 9 #[.slice A a.length c, .slice B b.length d] W (LsRet2 W (retMeet a b) (meetB a b))) := fun W A c B d h1 h2 => refmeet10_any W Tr Tr A B c d a b h1 h2 (by omega)
  have HR1 : Hid (∀ W A c, Ls W Tr A c a → Calls Try.prog 10 #[.slice A a.length c] W fun e w' => e = .returned (.bool (rightL a)) ∧ Fr No W w') := fun W A c h => rightC_any W W Tr A c a h.ods h.n
  have HR2 : Hid (∀ W A c, Ls W Tr A c a → Calls Try.prog 11 #[.slice A a.length c] W fun e w' => e = .returned (.bool (rightL a)) ∧ Fr No W w') := fun W A c h => refright10_any W W Tr A c a h.ods h.n
  have HB1 : Hid (∀ W A c B d, Ls W Tr A c a → Ls W Tr B d b → Calls Try.prog 12 #[.slice A a.length c, .slice B b.length d] W fun e w' => e = .returned (.bool (beginsB a b)) ∧ Fr No W w') := fun W A c B d h1 h2 => beginsC_any W Tr Tr A B c d a b h1 h2
  have HB2 : Hid (∀ W A c B d, Ls W Tr A c a → Ls W Tr B d b → Calls Try.prog 13 #[.slice A a.length c, .slice B b.length d] W fun e w' => e = .returned (.bool (beginsB a b)) ∧ Fr No W w') := fun W A c B d h1 h2 => refbegins10_any W Tr Tr A B c d a b h1 h2
  have HK1 : Hid (∀ W A c B d, Ls W Tr A c a → Ls W Tr B d b → Calls Try.prog 14 #[.slice A a.length c, .slice B b.length d] W fun e w' => e = .returned (.bool (alikeB a b)) ∧ Fr No W w') := fun W A c B d h1 h2 => alikeC_any W Tr Tr A B c d a b h1 h2
  have HK2 : Hid (∀ W A c B d, Ls W Tr A c a → Ls W Tr B d b → Calls Try.prog 15 #[.slice A a.length c, .slice B b.length d] W fun e w' => e = .returned (.bool (alikeB a b)) ∧ Fr No W w') := fun W A c B d h1 h2 => refalike10_any W Tr Tr A B c d a b h1 h2
  have HT1 : Hid (∀ W A c B d, Ls W Tr A c a → Ls W Tr B d b → Calls Try.prog 17 #[.slice A a.length c, .slice B b.length d] W (LsRet W (restO a b))) := fun W A c B d h1 h2 => (restC_any W Tr Tr A B c d a b h1 h2).mono fun e w' ⟨A', c', h4, h5, h6, _⟩ => ⟨A', c', h4, lsN_of h5 HRS.out.1 HRS.out.2, h6⟩
  have HT2 : Hid (∀ W A c B d, Ls W Tr A c a → Ls W Tr B d b → Calls Try.prog 18 #[.slice A a.length c, .slice B b.length d] W (LsRet W (restO a b))) := fun W A c B d h1 h2 => refrest10_any W Tr Tr A B c d a b h1 h2
  have HSM : Hid (∀ W A c B d l, Ls W Tr A c l → Ls W Tr B d l → Calls Try.prog 16 #[.slice A l.length c, .slice B l.length d] W fun e w' => e = .returned (.bool true) ∧ Fr No W w') := fun W A c B d l h1 h2 => same10_eq W Tr Tr A B c d l h1 h2
  have HC1 : Hid (∀ (w1 : World) (F G : Nat → Prop) (x y : Od) (v u : Value), LgS w1 F v x.legs → LgS w1 G u y.legs → x.legs.length ≤ 100000 → y.legs.length ≤ 100000 → ∀ W, Fr No w1 W → Calls Try.prog 6 #[x.val v, y.val u] W fun e w' => e = .returned (.bool (clashB x y)) ∧ Fr No W w') := fun w1 F G x y v u h1 h2 h3 h4 W hW => clash_any F G x y v u W (h1.no hW) (h2.no hW) h3 h4
  have HC2 : Hid (∀ (w1 : World) (F G : Nat → Prop) (x y : Od) (v u : Value), x.ok → (∀ g ∈ x.legs, g.ok) → y.ok → (∀ g ∈ y.legs, g.ok) → LgS w1 F v x.legs → LgS w1 G u y.legs → x.legs.length ≤ 100000 → y.legs.length ≤ 100000 → ∀ W, Fr No w1 W → Calls Try.prog 7 #[x.val v, y.val u] W fun e w' => e = .returned (.bool (clashB x y)) ∧ Fr No W w') := fun w1 F G x y v u a1 a2 b1 b2 h1 h2 h3 h4 W hW => refclash_any F G x y v u W a1 a2 b1 b2 (h1.no hW) (h2.no hW) h3 h4
  go_enter Try.func3, Try.ntmps3
  go_wp2_with fail
  (with_reducible refine (HLV.out _).mono ?_)
  rintro e w1 ⟨rfl, hf1⟩
  go_wp2_with fail
  refine (HA.out _ hf1).mono ?_
  rintro e w2 ⟨A2, c2, rfl, hl2, hf2⟩
  go_wp2_with fail
  refine (HB.out _ (hf1.trans hf2)).mono ?_
  rintro e w3 ⟨A3, c3, rfl, hl3, hf3⟩
  have HF3 := Lib.hid ((hf1.trans hf2).trans hf3)
  have HL2 := Lib.hid (hl2.no hf3)
  have HL3 := Lib.hid hl3
  clear hf1 hf2 hf3 hl2 hl3 HA HB HLV
  go_upto_block 0 with (fail)
  go_cut [5] (fun _ wx => Fr No w3 wx)
  case first =>
    go_wp2_with fail
    go_loopw [5] (fun iv wx => ClRel w3 a.length b.length iv wx) (fun iv _ => a.length - (intOf iv).toNat)
    case atStart => exact ⟨0, Nat.zero_le _, rfl, Fr.refl _ _⟩
    case round =>
      obtain ⟨i, hi, rfl, hfr⟩ := hrel
      have hi62 : (i : Int) ≤ 30 := by omega
      by_cases hia : i < a.length
      · by_cases hib : i < b.length
        · obtain ⟨ad, v, rfl, _, hok, hog, hLg, x0, x1, x2, x3, x4, x5, x6, x7, x8, x9⟩ := (HL2.out.no hfr).ods.at_ i hia
          obtain ⟨B1, d1, rfl, hd1, hd2⟩ := hLg.form
          obtain ⟨bd, v, rfl, _, hok2, hog2, hLg2, q0, q1, q2, q3, q4, q5, q6, q7, q8, q9⟩ := (HL3.out.no hfr).ods.at_ i hib
          obtain ⟨B2, d2, rfl, hd3, hd4⟩ := hLg2.form
          have HD1 := Lib.hid (HC1.out wr _ _ a[i] b[i] _ _ hLg hLg2 (HSA.out _ (List.getElem_mem hia)) (HSB.out _ (List.getElem_mem hib)))
          have HD2 := Lib.hid (HC2.out wr _ _ a[i] b[i] _ _ hok hog hok2 hog2 hLg hLg2 (HSA.out _ (List.getElem_mem hia)) (HSB.out _ (List.getElem_mem hib)))
          have HFR := Lib.hid hfr
          have hne : Nonempty (WIn (Fr No wr)) := ⟨⟨_, Fr.refl _ _⟩⟩
          have hai : (i : Int) < (a.length : Int) := by omega
          have hbi : (i : Int) < (b.length : Int) := by omega
          unfold Od.val Od.cs at HD1 HD2
          simp only [List.toArray] at HD1 HD2
          clear hok hog hLg hok2 hog2 hLg2 hfr
          generalize clashB a[i] b[i] = r at *
          have X0 := fun x : WIn (Fr No wr) => x.h.cell_some x0 (fun h => h)
          have X1 := fun x : WIn (Fr No wr) => x.h.cell_some x1 (fun h => h)
          have X2 := fun x : WIn (Fr No wr) => x.h.cell_some x2 (fun h => h)
          have X3 := fun x : WIn (Fr No wr) => x.h.cell_some x3 (fun h => h)
          have X4 := fun x : WIn (Fr No wr) => x.h.cell_some x4 (fun h => h)
          have X5 := fun x : WIn (Fr No wr) => x.h.cell_some x5 (fun h => h)
          have X6 := fun x : WIn (Fr No wr) => x.h.cell_some x6 (fun h => h)
          have X7 := fun x : WIn (Fr No wr) => x.h.cell_some x7 (fun h => h)
          have X8 := fun x : WIn (Fr No wr) => x.h.cell_some x8 (fun h => h)
          have X9 := fun x : WIn (Fr No wr) => x.h.cell_some x9 (fun h => h)
          have Q0 := fun x : WIn (Fr No wr) => x.h.cell_some q0 (fun h => h)
          have Q1 := fun x : WIn (Fr No wr) => x.h.cell_some q1 (fun h => h)
          have Q2 := fun x : WIn (Fr No wr) => x.h.cell_some q2 (fun h => h)
          have Q3 := fun x : WIn (Fr No wr) => x.h.cell_some q3 (fun h => h)
          have Q4 := fun x : WIn (Fr No wr) => x.h.cell_some q4 (fun h => h)
          have Q5 := fun x : WIn (Fr No wr) => x.h.cell_some q5 (fun h => h)
          have Q6 := fun x : WIn (Fr No wr) => x.h.cell_some q6 (fun h => h)
          have Q7 := fun x : WIn (Fr No wr) => x.h.cell_some q7 (fun h => h)
          have Q8 := fun x : WIn (Fr No wr) => x.h.cell_some q8 (fun h => h)
          have Q9 := fun x : WIn (Fr No wr) => x.h.cell_some q9 (fun h => h)
          go_upto_region 7 with (fail)
          clear x0 x1 x2 x3 x4 x5 x6 x7 x8 x9 q0 q1 q2 q3 q4 q5 q6 q7 q8 q9
          cases r
          · refine wp_region_in (D := Fr No wr) (by kernel_rfl) (by kernel_rfl) (Fr.refl _ _).drew ?_
            repeat (go_big_quiet_step ((first | (go_at_call 6; refine Calls.in_of (v := .bool false) _ fun W hW => ?_; (with_reducible refine (HD1.out W hW).mono ?_); exact fun _ _ h => ⟨h.1, Fr.trans hW h.2⟩) | (go_at_call 7; refine Calls.in_of (v := .bool false) _ fun W hW => ?_; (with_reducible refine (HD2.out W hW).mono ?_); exact fun _ _ h => ⟨h.1, Fr.trans hW h.2⟩))))
            refine wpQuiet_nil ?_
            rintro wq ⟨⟨w0, hq⟩, hw0⟩
            obtain rfl : wq = w0 := hw0
            go_wp2
            go_roundw
            case rel => exact ⟨i + 1, hia, by go_num, HFR.out.trans hq⟩
            case measure => simp [intOf]; omega
          · refine wp_region_in (D := Fr No wr) (by kernel_rfl) (by kernel_rfl) (Fr.refl _ _).drew ?_
            repeat (go_big_quiet_step ((first | (go_at_call 6; refine Calls.in_of (v := .bool true) _ fun W hW => ?_; (with_reducible refine (HD1.out W hW).mono ?_); exact fun _ _ h => ⟨h.1, Fr.trans hW h.2⟩) | (go_at_call 7; refine Calls.in_of (v := .bool true) _ fun W hW => ?_; (with_reducible refine (HD2.out W hW).mono ?_); exact fun _ _ h => ⟨h.1, Fr.trans hW h.2⟩))))
            refine wpQuiet_nil ?_
            rintro wq ⟨⟨w0, hq⟩, hw0⟩
            obtain rfl : wq = w0 := hw0
            go_wp2
            go_roundw
            case rel => exact ⟨i + 1, hia, by go_num, HFR.out.trans hq⟩
            case measure => simp [intOf]; omega
        · have HFR := Lib.hid hfr
          clear hfr
          go_wp2
          go_meet
          exact HFR.out
      · have HFR := Lib.hid hfr
        clear hfr
        go_wp2
        go_meet
        exact HFR.out
  case rest =>
    obtain ⟨w4, rfl⟩ : ∃ w4 : World, w4 = wc := ⟨_, rfl⟩
    have HA4 := Lib.hid (HL2.out.no hcut)
    have HB4 := Lib.hid (HL3.out.no hcut)
    have HF4 := Lib.hid (HF3.out.trans hcut)
    clear hcut HL2 HL3 HF3
    have HX1 := Lib.hid (HM1.out _ _ _ _ _ HA4.out HB4.out)
    go_wp2_with fail
    (with_reducible refine HX1.out.mono ?_)
    rintro e w5 ⟨A5, c5, rfl, hl5, hf5⟩
    have HX2 := Lib.hid (HM2.out _ _ _ _ _ (HA4.out.no hf5) (HB4.out.no hf5))
    have HM5 := Lib.hid hl5
    have HF5 := Lib.hid hf5
    clear hl5 hf5
    go_wp2_with fail
    (with_reducible refine HX2.out.mono ?_)
    rintro e w6 ⟨A6, c6, rfl, hl6, hf6⟩
    have HM56 := Lib.hid (HM5.out.no hf6)
    have HM6 := Lib.hid hl6
    have HF6 := Lib.hid (HF5.out.trans hf6)
    clear hl6 hf6 HX1 HX2
    generalize meetB a b = mb at *
    have HFIN : Hid (∀ W, Fr No w4 W → Ls W Tr A2 c2 a ∧ Ls W Tr A3 c3 b) := fun W hW => ⟨HA4.out.no hW, HB4.out.no hW⟩
    have HMM : Hid (∀ W, Fr No w6 W → Calls Try.prog 16 #[.slice A5 (retMeet a b).length c5, .slice A6 (retMeet a b).length c6] W fun e w' => e = .returned (.bool true) ∧ Fr No W w') := fun W hW => HSM.out W _ _ _ _ _ (HM56.out.no hW) (HM6.out.no hW)
    have HX1 := Lib.hid (HR1.out _ _ _ (HFIN.out _ HF6.out).1)
    generalize rightL a = rr at *
    go_wp2_with fail
    (with_reducible refine HX1.out.mono ?_)
    rintro e w7 ⟨rfl, hf7⟩
    have HF7 := Lib.hid (HF6.out.trans hf7)
    have HG7 := Lib.hid hf7
    have HX2 := Lib.hid (HR2.out _ _ _ (HFIN.out _ HF7.out).1)
    clear hf7
    go_wp2_with fail
    (with_reducible refine HX2.out.mono ?_)
    rintro e w8 ⟨rfl, hf8⟩
    have hrr : (rr == rr) = true := beq_self_eq_true _
    have HF8 := Lib.hid (HF7.out.trans hf8)
    have HG8 := Lib.hid (HG7.out.trans hf8)
    have HX3 := Lib.hid (HB1.out _ _ _ _ _ (HFIN.out _ HF8.out).1 (HFIN.out _ HF8.out).2)
    generalize beginsB a b = rb at *
    clear hf8
    go_wp2_with fail
    (with_reducible refine HX3.out.mono ?_)
    rintro e w9 ⟨rfl, hf9⟩
    have HF9 := Lib.hid (HF8.out.trans hf9)
    have HG9 := Lib.hid (HG8.out.trans hf9)
    have HX4 := Lib.hid (HB2.out _ _ _ _ _ (HFIN.out _ HF9.out).1 (HFIN.out _ HF9.out).2)
    clear hf9
    go_wp2_with fail
    (with_reducible refine HX4.out.mono ?_)
    rintro e w10 ⟨rfl, hf10⟩
    have hrb : (rb == rb) = true := beq_self_eq_true _
    have HF10 := Lib.hid (HF9.out.trans hf10)
    have HG10 := Lib.hid (HG9.out.trans hf10)
    have HX5 := Lib.hid (HK1.out _ _ _ _ _ (HFIN.out _ HF10.out).1 (HFIN.out _ HF10.out).2)
    generalize alikeB a b = rk at *
    clear hf10
    go_wp2_with fail
    (with_reducible refine HX5.out.mono ?_)
    rintro e w11 ⟨rfl, hf11⟩
    have HF11 := Lib.hid (HF10.out.trans hf11)
    have HG11 := Lib.hid (HG10.out.trans hf11)
    have HX6 := Lib.hid (HK2.out _ _ _ _ _ (HFIN.out _ HF11.out).1 (HFIN.out _ HF11.out).2)
    clear hf11
    go_wp2_with fail
    (with_reducible refine HX6.out.mono ?_)
    rintro e w12 ⟨rfl, hf12⟩
    have hrk : (rk == rk) = true := beq_self_eq_true _
    have HF12 := Lib.hid (HF11.out.trans hf12)
    have HG12 := Lib.hid (HG11.out.trans hf12)
    have HX7 := Lib.hid (HT1.out _ _ _ _ _ (HFIN.out _ HF12.out).1 (HFIN.out _ HF12.out).2)
    clear hf12
    go_wp2_with fail
    (with_reducible refine HX7.out.mono ?_)
    rintro e w13 ⟨A13, c13, rfl, hl13, hf13⟩
    have HF13 := Lib.hid (HF12.out.trans hf13)
    have HG13 := Lib.hid (HG12.out.trans hf13)
    have HL13 := Lib.hid hl13
    have HX8 := Lib.hid (HT2.out _ _ _ _ _ (HFIN.out _ HF13.out).1 (HFIN.out _ HF13.out).2)
    clear hf13 hl13
    go_wp2_with fail
    (with_reducible refine HX8.out.mono ?_)
    rintro e w14 ⟨A14, c14, rfl, hl14, hf14⟩
    have HF14 := Lib.hid (HF13.out.trans hf14)
    have HG14 := Lib.hid (HG13.out.trans hf14)
    have HX9 := Lib.hid (HSM.out _ _ c13 _ c14 _ (HL13.out.no hf14) hl14)
    clear hf14 hl14
    go_wp2_with fail
    (with_reducible refine HX9.out.mono ?_)
    rintro e w15 ⟨rfl, hf15⟩
    have hmb : (mb == mb) = true := beq_self_eq_true _
    have HF15 := Lib.hid (HF14.out.trans hf15)
    have HX10 := Lib.hid (HMM.out _ (HG14.out.trans hf15))
    clear hf15
    go_wp2_with fail
    (with_reducible refine HX10.out.mono ?_)
    rintro e w16 ⟨rfl, hf16⟩
    have HF16 := Lib.hid ((HF4.out.trans HF15.out).trans hf16)
    clear hf16
    go_wp2
    go_ret
    exact ⟨rfl, HF16.out.belowNo⟩
end Go.Proofs.Ytnphncemghfkbaa
