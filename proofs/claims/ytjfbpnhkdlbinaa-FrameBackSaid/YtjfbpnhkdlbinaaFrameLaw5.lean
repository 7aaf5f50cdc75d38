/- The laws of package frame, as walks: FrameBack. -/
import Derived.Test.YtjfbpnhkdlbinaaFrameLaw4
namespace Go.Proofs.Ytjfbpnhkdlbinaa
open Go.RowKit Go.My
set_option linter.unusedSimpArgs false
set_option linter.unusedVariables false

theorem wrapF_append (l r : List (List UInt8)) : wrapF (l ++ r) = wrapF l ++ wrapF r := by simp [wrapF]
theorem wrapF_take_succ (l : List (List UInt8)) (j : Nat) (h : j < l.length) : (wrapF (l.take (j + 1))).length = (wrapF (l.take j)).length + (l[j].length + 6) := by
  rw [List.take_succ_eq_append_getElem h, wrapF_append, List.length_append]
  simp [wrapF, frm_length]
  omega
/-- frames that are cut -/
theorem scan_cut (l : List (List UInt8)) (j k : Nat) (h : AllOk l) (hj : j ≤ l.length) (h1 : (wrapF (l.take j)).length ≤ k) (hk : k ≤ (wrapF l).length) (h2 : ∀ hlt : j < l.length, k < (wrapF (l.take j)).length + (l[j].length + 6)) :
    scan ((wrapF l).take k) = (l.take j, (wrapF (l.take j)).length, if (wrapF (l.take j)).length = k then 0 else 4) := by
  have e : (wrapF l).take k = wrapF (l.take j) ++ (wrapF (l.drop j)).take (k - (wrapF (l.take j)).length) := by
    conv => lhs; rw [← List.take_append_drop j l, wrapF_append, List.take_append]
    rw [List.take_of_length_le h1]
  have hlen : (wrapF l).length = (wrapF (l.take j)).length + (wrapF (l.drop j)).length := by
    rw [← List.length_append, ← wrapF_append, List.take_append_drop]
  rw [e, scan_wrap _ _ (fun d hd => h d (List.mem_of_mem_take hd))]
  by_cases hr : (wrapF (l.take j)).length = k
  · rw [if_pos hr, hr, Nat.sub_self, List.take_zero, scan_nil]
    simp
  · rw [if_neg hr]
    have hjl : j < l.length := by
      rcases Nat.lt_or_ge j l.length with h | h
      · exact h
      · rw [List.drop_of_length_le h] at hlen
        simp [wrapF] at hlen h1 hr hk
        omega
    have h3 := h2 hjl
    have hd : l.drop j = l[j] :: l.drop (j + 1) := List.drop_eq_getElem_cons hjl
    rw [hd, wrapF_cons, List.take_append_of_le_length (by rw [frm_length]; omega)]
    rw [scan_torn l[j] _ (h _ (List.getElem_mem hjl)) (by rw [frm_length]; omega) (by omega)]
    simp

theorem RdL.take {w : World} {A : Option Addr} {l : List (List UInt8)} (h : RdL w A l) {j : Nat} (hj : j ≤ l.length) : RdL w A (l.take j) := by
  obtain ⟨cells, hr, he⟩ := h
  have hl : (l.take j).length = j := by simp; omega
  refine ⟨cells.take j, ?_, fun i d hd => ?_⟩
  · rw [hl]
    have := hr.take hj
    rwa [Nat.mul_one] at this
  · rw [List.getElem?_take] at hd
    split at hd
    · rename_i hij
      obtain ⟨Aj, cj, h1, h2⟩ := he i d hd
      exact ⟨Aj, cj, by rw [List.getElem?_take, if_pos hij]; exact h1, h2⟩
    · cases hd
def BackRel (F : List (List UInt8)) (k : Nat) (wv sv iv : Value) : Prop :=
  ∃ j : Nat, j ≤ F.length ∧ iv = .int .i64 j ∧ wv = .int .i64 j ∧ sv = .int .i64 ((wrapF (F.take j)).length : Int) ∧ (wrapF (F.take j)).length ≤ k

set_option maxRecDepth 100000 in
set_option maxHeartbeats 1000000 in
theorem frameBack_walk (A : Option Addr) (c : Nat) (l : List (List UInt8)) (a : Int) (w : World)
    (rl : RdL w A l) (lc : l.length ≤ c) (cm : c ≤ maxLen) (ha : -9223372036854775808 ≤ a ∧ a ≤ 9223372036854775807) :
    Calls Try.prog 8 #[.slice A l.length c, .int .i64 a] w (RetTrue w) := by
  have HRL := Lib.hid rl
  have HM := Lib.hid cm
  clear rl cm
  go_enter Try.func8, Try.ntmps8
  go_wp2_with fail
  refine (livesF _).mono ?_
  rintro e w1 ⟨rfl, hb1⟩
  have hs1 := hb1.size
  go_wp2_with fail
  refine (few_any A c l w1 (HRL.out.below hb1) lc HM.out).mono ?_
  rintro e w2 ⟨A2, c2, rfl, rl2, hl2, hm2, hf2⟩
  obtain ⟨hfl, hfe⟩ := fewF_size l
  have hb2 := below_fr_no hb1 hf2 hs1
  have hs2 := hb2.size
  clear HRL HM hf2
  generalize fewF l = F at *
  go_wp2_with fail
  refine (wrap_rd A2 c2 F w2 rl2 (by omega)).mono ?_
  rintro e w3 ⟨A3, c3, rfl, rd3, hl3, hm3, hf3⟩
  have hb3 := below_fr_no hb2 hf3 hs2
  have hs3 := hb3.size
  have hwl := wrapV_le F
  by_cases hok : AllOk F
  · have hv : wrapV F = wrapF F := if_pos hok
    have he : wrapE F = 0 := if_pos hok
    rw [he]
    rw [hv] at rd3 hl3 hwl ⊢
    have hWl : (wrapF F).length ≤ 82040 := by omega
    have rl3 : RdL w3 A2 F := rl2.below hf3.belowNo
    have hscw := scan_wrap F [] hok
    rw [List.append_nil, scan_nil] at hscw
    simp only [List.append_nil, Nat.add_zero] at hscw
    go_wp2_with fail
    refine (scan_any A3 c3 (wrapF F) w3 rd3 hl3 hm3 (by omega)).mono ?_
    rintro e w4 ⟨A4, c4, rfl, rl4, hl4, hm4, hf4⟩
    rw [hscw] at rl4 hl4 ⊢
    have hb4 := below_fr_no hb3 hf4 hs3
    have hs4 := hb4.size
    have rl4' : RdL w4 A2 F := rl3.below hf4.belowNo
    have rd4 : Rd w4 (Lt w4.heap.size) 1 A3 (wrapF F).length (bs (wrapF F)) := (rd3.below hf4.belowNo fun _ h => h).more fun k hk => Nat.lt_of_lt_of_le hk hf4.size
    have HSM := Lib.hid (sameL_eq A2 A4 F.length c2 F.length c4 F F w4 rfl rfl rfl rl4' rl4 (by omega))
    clear hv he hwl rl3 rl2 rd3 hf4 hf3 hscw
    obtain ⟨k, hk, hkl⟩ := umod a ((wrapF F).length + 1) (by omega) (by omega)
    have hk' : wrap64 ((IntKind.u64.wrap a).tmod (((wrapF F).length : Int) + 1)) = (k : Int) := hk
    have HCUT : Hid (∀ j, j ≤ F.length → (wrapF (F.take j)).length ≤ k → (∀ hlt : j < F.length, k < (wrapF (F.take j)).length + (F[j].length + 6)) → scan ((wrapF F).take k) = (F.take j, (wrapF (F.take j)).length, if (wrapF (F.take j)).length = k then 0 else 4)) := fun j h1 h2 h3 => scan_cut F j k hok h1 h2 (by omega) h3
    generalize wrapF F = WF at *
    have hkc : (k : Int) ≤ c3 := by omega
    have hlt : (WF.take k).length = k := by simp; omega
    have rdk : Rd w4 (Lt w4.heap.size) 1 A3 k (bs (WF.take k)) := by
      have := rd4.take (k := k) (by omega)
      rwa [Nat.mul_one, ← bs_take] at this
    have HSC : Hid (∀ n, Calls Try.prog 38 #[.slice A3 k c3] (w4.drewN n) (RetScan (w4.drewN n) (WF.take k))) := fun n => scan_len A3 k c3 (WF.take k) (w4.drewN n) hlt (Rd.drewN rdk n) (by omega) hm3 (by omega)
    clear hk hlt rdk rl4
    go_wp2_with (first
      | (go_at_call 40; refine HSM.out.mono ?_; rintro e w5 ⟨rfl, nd, rfl⟩)
      | (go_at_call 38; refine (HSC.out _).mono ?_; rintro e w6 ⟨A6, c6, rfl, rl6, hl6, hm6, hf6⟩))
    have rl6F : RdL w6 A2 F := (rl4'.below ((Fr.refl No w4).drewN nd).belowNo).below hf6.belowNo
    go_loopw [11, 12, 13] (fun a s i wr => BackRel F k a s i ∧ wr = w6) (fun _ _ i _ => F.length - (intOf i).toNat)
    case atStart => exact ⟨⟨0, Nat.zero_le _, rfl, rfl, rfl, by simp [wrapF]⟩, rfl⟩
    case round =>
      obtain ⟨⟨j, hj, rfl, rfl, rfl, hsz⟩, rfl⟩ := hrel
      by_cases hlt : j < F.length
      · obtain ⟨ad, Aj, cj, rfl, hcell, _, _, _⟩ := rl6F.at_ hlt
        have hsucc := wrapF_take_succ F j hlt
        by_cases hfit : (wrapF (F.take j)).length + (F[j].length + 6) ≤ k
        · have HS := Lib.hid hsucc
          have HE : Hid (BackRel F k (.int .i64 ((j : Int) + 1)) (.int .i64 (((wrapF (F.take j)).length : Int) + (F[j].length + 6))) (.int .i64 ((j : Int) + 1))) :=
            ⟨j + 1, by omega, by go_num, by go_num, by rw [hsucc]; go_num, by omega⟩
          have hdl := hfe F[j] (List.getElem_mem hlt)
          generalize (wrapF (F.take j)).length = sz at *
          generalize F[j] = d at *
          have d1 : (sz : Int) + d.length + 6 ≤ k := by omega
          clear hsucc HS hfit HCUT
          go_wp2
          exact ⟨⟨HE.out, trivial⟩, by simp [intOf]; omega⟩
        · have hcut := HCUT.out j hj hsz (fun _ => by omega)
          have hdl := hfe F[j] (List.getElem_mem hlt)
          have d2 : ¬ ((wrapF (F.take j)).length : Int) + F[j].length + 6 ≤ k := by omega
          clear hsucc hfit
          generalize F[j] = d at *
          rw [hcut] at rl6 hl6 ⊢
          have hjl : (F.take j).length = j := by simp; omega
          have HSM2 := Lib.hid (sameL_eq A6 _ j c6 j c2 (F.take j) (F.take j) _ rfl hjl hjl rl6 (rl6F.take hj) (by omega))
          have hjc : (j : Int) ≤ c2 := by omega
          have hb6 : Below w.heap.size w _ := below_fr_no (below_drewN hb4 nd) hf6 hs4
          simp only at rl6 hl6 ⊢
          rw [hjl]
          generalize (wrapF (F.take j)).length = sz at *
          clear hjl hl6 rl6 HCUT hcut
          by_cases hsk : sz = k
          · have d1 : ((sz : Int) == (k : Int)) = true := by rw [beq_iff_eq]; omega
            rw [if_pos hsk]
            clear hsk
            go_wp2_with (go_at_call 40; refine HSM2.out.mono ?_; rintro e w7 ⟨rfl, nd7, rfl⟩)
            go_ret
            exact ⟨rfl, below_drewN hb6 _⟩
          · have d1 : ((sz : Int) == (k : Int)) = false := by rw [beq_eq_false_iff_ne]; omega
            rw [if_neg hsk]
            clear hsk
            go_wp2_with (go_at_call 40; refine HSM2.out.mono ?_; rintro e w7 ⟨rfl, nd7, rfl⟩)
            go_ret
            exact ⟨rfl, below_drewN hb6 _⟩
      · obtain rfl : j = F.length := by omega
        have hcut := HCUT.out F.length hj hsz (fun h => absurd h (by omega))
        rw [hcut] at rl6 hl6 ⊢
        have hjl : (F.take F.length).length = F.length := by simp
        have HSM2 := Lib.hid (sameL_eq A6 _ F.length c6 F.length c2 (F.take F.length) (F.take F.length) _ rfl hjl hjl rl6 (rl6F.take hj) (by omega))
        have hjc : (F.length : Int) ≤ c2 := by omega
        have hb6 : Below w.heap.size w _ := below_fr_no (below_drewN hb4 nd) hf6 hs4
        simp only at rl6 hl6 ⊢
        rw [hjl]
        generalize (wrapF (F.take F.length)).length = sz at *
        clear hjl hl6 rl6 HCUT hcut
        by_cases hsk : sz = k
        · have d1 : ((sz : Int) == (k : Int)) = true := by rw [beq_iff_eq]; omega
          rw [if_pos hsk]
          clear hsk
          go_wp2_with (go_at_call 40; refine HSM2.out.mono ?_; rintro e w7 ⟨rfl, nd7, rfl⟩)
          go_ret
          exact ⟨rfl, below_drewN hb6 _⟩
        · have d1 : ((sz : Int) == (k : Int)) = false := by rw [beq_eq_false_iff_ne]; omega
          rw [if_neg hsk]
          clear hsk
          go_wp2_with (go_at_call 40; refine HSM2.out.mono ?_; rintro e w7 ⟨rfl, nd7, rfl⟩)
          go_ret
          exact ⟨rfl, below_drewN hb6 _⟩
  · have hv : wrapV F = [] := if_neg hok
    have he : wrapE F = 1 := if_neg hok
    rw [he, hv]
    go_wp2
    go_ret
    exact ⟨rfl, hb3⟩
theorem frameBack_in (A : Option Addr) (c : Nat) (cells : List Value) (l : List (List UInt8)) (a : Int) (w : World)
    (rd : Rd w (Lt w.heap.size) 1 A l.length cells) (lc : l.length ≤ c) (cm : c ≤ maxLen) (hE : Each (RdB w) 1 cells l) (ha : -9223372036854775808 ≤ a ∧ a ≤ 9223372036854775807) :
    Calls Try.prog 8 #[.slice A l.length c, .int .i64 a] w (RetTrue w) := frameBack_walk A c l a w (rdl_of rd hE) lc cm ha
end Go.Proofs.Ytjfbpnhkdlbinaa
