/- FoataBegins: the walk. -/
import Derived.Test.YtnphncemghfkbaaGreatQ18
namespace Go.Proofs.YtnphncemghfkbaaGreat
open Go.RowKit Go.My Go.Maps Go.WideMaps
set_option linter.unusedSimpArgs false
set_option linter.unusedVariables false
attribute [local go_sem ↓] Go.wp_at_zero Go.wp_at_succ

def PrRel11 (w : World) (n : Nat) (iv : Value) (wr : World) : Prop := ∃ k : Nat, k ≤ n ∧ iv = .int .i64 k ∧ Fr No w wr
theorem len_succ11 {n : Nat} (h : n ≤ 1000000) : wrap64 ((n : Int) + 1) = (n : Int) + 1 ∧ IntKind.u64.wrap ((n : Int) + 1) = (n : Int) + 1 ∧ ¬ ((n : Int) + 1 = 0) := by
  refine ⟨IntWalk.wrap64_in _ ⟨by omega, by omega⟩, ?_, by omega⟩
  rw [IntKind.wrap_u64]
  omega
theorem Ls.take11 {w : World} {F : Nat → Prop} {A : Option Addr} {c : Nat} {l : List Od} (h : Ls w F A c l) {k : Nat} (hk : k ≤ l.length) : Ls w F A c (l.take k) ∧ (l.take k).length = k := by
  have hlk : (l.take k).length = k := by rw [List.length_take]; omega
  obtain ⟨⟨cells, hr, hE⟩, h1, h2, h3⟩ := h
  refine ⟨⟨⟨cells.take (k * 10), by rw [hlk]; exact hr.take hk, by rw [List.length_take, hE.1, hlk]; exact Nat.min_eq_left (Nat.mul_le_mul_right _ hk), fun i x hx => ?_⟩, by omega, by omega, fun o ho => h3 o (List.mem_of_mem_take ho)⟩, hlk⟩
  have hi : i < k := by
    have := (List.getElem?_eq_some_iff.1 hx).1
    omega
  rw [List.getElem?_take, if_pos hi] at hx
  have h4 := hE.2 i x hx
  have e : ((cells.take (k * 10)).drop (i * 10)).take 10 = (cells.drop (i * 10)).take 10 := by
    rw [List.drop_take, List.take_take]
    congr 1
    omega
  rw [e]
  exact h4
set_option maxRecDepth 100000 in
set_option maxHeartbeats 2000000 in
theorem foataBegins_walk (A : Option Addr) (c : Nat) (la : List Od) (x : Int) (w : World) (ra : OdsS w w (Lt w.heap.size) A la) (ca : la.length ≤ c) (ma : c ≤ maxLen) (hx : In64 x) :
    Calls Tryz.prog 9 #[.slice A la.length c, .int .i64 x] w fun e w' => e = .returned (.bool true) ∧ Below w.heap.size w w' := by
  have HLV : Hid (∀ W, _) := fun W => lives11 W
  have HA : Hid (∀ W, Fr No w W → _) := fun W hW => few_own11 w W A c 50 la ra ca ma (by omega) hW
  have HRA := Lib.hid (lawL_rt la 50)
  have hal := lawL_len la 50
  clear ra ca ma
  generalize hga : lawL la 50 = a at *
  clear hga
  generalize la.length = na at *
  have hST : ∀ W A c k, k ≤ a.length → Ls W Tr A c a → Calls Tryz.prog 14 #[.slice A k c] W fun e w' => ∃ A' c' S, e = .returned (.slice A' (S : List (List Od)).length c') ∧ StS w' A' S ∧ Fr No W w' ∧ StepsO (a.take k) S := fun W A c k hk h => by
    obtain ⟨h1, h2⟩ := h.take11 hk
    have h3 := steps_any W Tr A c (a.take k) h1 (by omega)
    rw [h2] at h3
    refine h3.mono ?_
    rintro e w' ⟨A', c', S, e1, _, e2, e3, e4, _⟩
    refine ⟨A', c', S, e1, e2, e3, e4 ((rightL_iff _).2 ?_)⟩
    have hr := HRA.out
    unfold Rt at hr ⊢
    rw [List.map_take]
    exact hr.sublist (List.take_sublist _ _)
  obtain ⟨i, hi, hil⟩ := umod x (a.length + 1) (by omega) (by omega)
  have hia : i ≤ a.length := Nat.le_of_lt_succ hil
  obtain ⟨hw1, hw2, hnz⟩ := len_succ11 (n := a.length) (Nat.le_trans hal (by decide))
  have hi' : wrap64 ((IntKind.u64.wrap x).tmod ((a.length : Int) + 1)) = (i : Int) := hi
  have hal1 : (a.length : Int) + 1 ≤ 51 := by clear hi hi' hw1 hw2; omega
  have hia2 : (i : Int) ≤ a.length := by clear hi hi' hw1 hw2; omega
  have HS1 : Hid (∀ W A c, Ls W Tr A c a → _) := fun W A c h => hST W A c i hia h
  have HS2 : Hid (∀ W A c, Ls W Tr A c a → _) := fun W A c h => hST W A c a.length (Nat.le_refl _) h
  have HBG : Hid (∀ S T, StepsO (a.take i) S → StepsO (a.take a.length) T → S.length ≤ T.length ∧ ∀ j (hj : j < S.length) (hk : j < T.length), ∀ o ∈ S[j], o ∈ T[j]) := fun S T h1 h2 => by
    have h3 : StepsO (a.take i ++ a.drop i) T := by
      rw [List.take_append_drop]
      rw [List.take_length] at h2
      exact h2
    exact StepsR.begin h1 h3
  have HTL : Hid (∀ k S, StepsO (a.take k) S → S.length ≤ 50 ∧ (flatS S).length ≤ 50) := fun k S h => by
    have h1 := stepsLen h
    have hr : Rt Od.id (a.take k) := by
      have hr := HRA.out
      unfold Rt at hr ⊢
      rw [List.map_take]
      exact hr.sublist (List.take_sublist _ _)
    have h2 := (ak_flat hr h).1
    rw [List.length_take] at h1 h2
    omega
  have HIA := Lib.hid hia
  clear hi hil hia hST
  have HAT : Hid (∀ W A c l p q, Ls W (Lt W.heap.size) A c (l : List Od) → Calls Tryz.prog 27 #[.slice A l.length c, .agg #[.int .i64 p, .int .i64 q]] W fun e w' => e = .returned (.int .i64 (atL (idsO l) (p, q))) ∧ Fr No W w') := fun W A c l p q h => at10_any W W _ A c l p q h.ods h.n
  go_enter Tryz.func9, Tryz.ntmps9
  go_wp2_with fail
  (with_reducible refine (HLV.out _).mono ?_)
  rintro e w1 ⟨rfl, hf1⟩
  go_wp2_with fail
  refine (HA.out _ hf1).mono ?_
  rintro e w2 ⟨A2, c2, m2, rfl, hf2, HA2⟩
  go_wp2_with fail
  (with_reducible refine (HA2 _ (Fr.refl _ _)).mono ?_)
  rintro e w3 ⟨A3, c3, rfl, hl3, hf3, -⟩
  clear HA2
  have HF3 := Lib.hid ((hf1.trans hf2).trans hf3)
  have HL3 := Lib.hid hl3
  have hc3 : (a.length : Int) ≤ (c3 : Int) := by have := HL3.out.c; clear hi' hw1 hw2; omega
  have hic : (i : Int) ≤ (c3 : Int) := Int.le_trans hia2 hc3
  clear hf1 hf2 hf3 hl3 HA HLV
  go_wp2_with fail
  (with_reducible refine (HS1.out _ _ _ HL3.out).mono ?_)
  rintro e w4 ⟨A4, c4, S, rfl, hs4, hf4, hS⟩
  have HS4 := Lib.hid hs4
  have HL4 := Lib.hid (HL3.out.no hf4)
  have HF4 := Lib.hid (HF3.out.trans hf4)
  clear hs4 hf4
  go_wp2_with fail
  (with_reducible refine (HS2.out _ _ _ HL4.out).mono ?_)
  rintro e w5 ⟨A5, c5, T, rfl, ht5, hf5, hT⟩
  have HS5 := Lib.hid (HS4.out.no hf5)
  have HT5 := Lib.hid ht5
  have HF5 := Lib.hid (HF4.out.trans hf5)
  obtain ⟨hle, hin⟩ := HBG.out S T hS hT
  have HIN := Lib.hid hin
  obtain ⟨hsl, hfl⟩ := HTL.out i S hS
  obtain ⟨htl, _⟩ := HTL.out _ T hT
  have hlei : ¬ ((T.length : Int) < (S.length : Int)) := by omega
  have HFL : Hid ((flatS S).length ≤ 50) := hfl
  clear hi' hw1 hw2 hnz hf5 ht5 HS4 HL3 HL4 HF3 HF4 HS1 HS2 HBG HTL hS hT hin hc3 hic hia2 hal1 hfl
  go_wp2
  go_loopw [8] (fun iv wr => PrRel11 w5 S.length iv wr) (fun iv _ => S.length - (intOf iv).toNat)
  case atStart => exact ⟨0, Nat.zero_le _, rfl, Fr.refl _ _⟩
  case round =>
    obtain ⟨k, hk, rfl, hfr⟩ := hrel
    have hk62 : (k : Int) ≤ 50 := by omega
    by_cases hlt : k < S.length
    · have hkT : k < T.length := by omega
      have HFO := Lib.hid hfr
      have hrl : S[k].length ≤ 50 := by
        have := len_mem (List.getElem_mem hlt)
        have := HFL.out
        omega
      have hki : (k : Int) < (S.length : Int) := by omega
      have hkti : (k : Int) < (T.length : Int) := by omega
      clear hfr
      generalize wr = wo at *
      go_wp2
      go_loopw [9] (fun jv wr => PrRel11 w5 S[k].length jv wr) (fun jv _ => S[k].length - (intOf jv).toNat)
      case atStart => exact ⟨0, Nat.zero_le _, rfl, HFO.out⟩
      case round =>
        obtain ⟨j, hj, rfl, hfr⟩ := hrel
        have hj62 : (j : Int) ≤ 50 := by omega
        obtain ⟨ad, Ar, cr, rfl, z0, hrow⟩ := (HS5.out.no hfr).at_ k hlt
        by_cases hjl : j < S[k].length
        · obtain ⟨bd, Br, dr, rfl, y0, hrowT⟩ := (HT5.out.no hfr).at_ k hkT
          obtain ⟨od, v, rfl, _, _, _, _, q0, q1, q2, q3, q4, q5, q6, q7, q8, q9⟩ := hrow.ods.at_ j hjl
          have hmem := HIN.out k hlt hkT S[k][j] (List.getElem_mem hjl)
          have hpos : ¬ atL (idsO T[k]) (S[k][j].cl, S[k][j].sq) < 0 := fun h => atL_neg.1 h (List.mem_map_of_mem (f := Od.id) hmem)
          have HC : Hid (∀ W, Fr No wr W → _) := fun W hW => HAT.out W Br dr T[k] S[k][j].cl S[k][j].sq ((hrowT.no hW).more fun _ hk => Nat.lt_of_lt_of_le hk hW.size)
          have HFR := Lib.hid hfr
          have HJL : Hid (j + 1 ≤ S[k].length) := hjl
          have hji : (j : Int) < (S[k].length : Int) := by omega
          have hne : Nonempty (WIn (Fr No wr)) := ⟨⟨_, Fr.refl _ _⟩⟩
          clear q2 q3 q4 q5 q6 q7 q8 q9 hrow hrowT hmem hfr
          generalize atL (idsO T[k]) (S[k][j].cl, S[k][j].sq) = pv at *
          generalize S[k][j].cl = cl at *
          generalize S[k][j].sq = sq at *
          have Z0 := fun x : WIn (Fr No wr) => x.h.cell_some z0 (fun h => h)
          have Y0 := fun x : WIn (Fr No wr) => x.h.cell_some y0 (fun h => h)
          have Q0 := fun x : WIn (Fr No wr) => x.h.cell_some q0 (fun h => h)
          have Q1 := fun x : WIn (Fr No wr) => x.h.cell_some q1 (fun h => h)
          clear y0 q0 q1
          go_upto_region 14 with (fail)
          clear z0
          refine wp_region_in (D := Fr No wr) (by kernel_rfl) (by kernel_rfl) (Fr.refl _ _).drew ?_
          repeat (go_big_quiet_step ((first | (go_at_call 27; refine Calls.in_of (v := .int .i64 pv) _ fun W hW => ?_; (with_reducible refine (HC.out W hW).mono ?_); exact fun _ _ h => ⟨h.1, Fr.trans hW h.2⟩))))
          refine wpQuiet_nil ?_
          rintro wq ⟨⟨w0, hq⟩, hw0⟩
          obtain rfl : wq = w0 := hw0
          go_wp2
          go_roundw
          case rel => exact ⟨j + 1, HJL.out, by go_num, HFR.out.trans hq⟩
          case measure => have := HJL.out; simp [intOf]; omega
        · obtain rfl : j = S[k].length := by omega
          have HFR := Lib.hid hfr
          clear hfr hrow
          go_wp2
          go_roundw
          case rel => exact ⟨k + 1, hlt, by go_num, HFR.out⟩
          case measure => simp [intOf]; omega
    · obtain rfl : k = S.length := by omega
      have HFR := Lib.hid (HF5.out.trans hfr)
      clear hfr
      go_wp2
      go_ret
      exact ⟨rfl, HFR.out.belowNo⟩
end Go.Proofs.YtnphncemghfkbaaGreat
