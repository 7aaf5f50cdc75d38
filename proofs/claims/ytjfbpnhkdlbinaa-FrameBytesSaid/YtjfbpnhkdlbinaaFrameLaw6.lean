/- The laws of package frame, as walks: FrameBytes. -/
import Derived.Test.YtjfbpnhkdlbinaaFrameRef
namespace Go.Proofs.Ytjfbpnhkdlbinaa
open Go.RowKit Go.My
set_option linter.unusedSimpArgs false
set_option linter.unusedVariables false

theorem RetWrap.open_ {w : World} {l : List (List UInt8)} {e : Ending} {w' : World} (h : RetWrap w l e w') :
    ∃ A' c', e = .returned (.tuple #[.slice A' (wrapV l).length c', .int .i64 (wrapE l : Int)]) ∧ Rd w' (Lt w'.heap.size) 1 A' (wrapV l).length (bs (wrapV l)) ∧ Fr No w w' := by
  obtain ⟨v, rfl, ho, hf, hn⟩ := h
  obtain ⟨A', c', rfl, h1, h2⟩ := ho.form
  exact ⟨A', c', rfl, rd_lt ho.rd (by omega), hf⟩

set_option maxRecDepth 100000 in
set_option maxHeartbeats 1000000 in
theorem frameBytes_walk (A1 : Option Addr) (c1 : Nat) (b : List UInt8) (A : Option Addr) (c : Nat) (l : List (List UInt8)) (w : World)
    (rd : Rd w (Lt w.heap.size) 1 A1 b.length (bs b)) (lc1 : b.length ≤ c1) (cm1 : c1 ≤ maxLen) (rl : RdL w A l) (lc : l.length ≤ c) (cm : c ≤ maxLen) :
    Calls Try.prog 6 #[.slice A1 b.length c1, .slice A l.length c] w (RetTrue w) := by
  obtain ⟨rdB, hB1⟩ := rd_take b 5000 rd
  have HE := Lib.hid fun w => early3_any A1 b.length c1 w lc1 cm1
  have hB2 : (b.take 5000).length ≤ 5000 := by omega
  have hBc : (b.take 5000).length ≤ c1 := by omega
  generalize b.take 5000 = B at *
  generalize b.length = L at *
  rw [← hB1] at rdB HE
  clear rd hB1
  have HRL := Lib.hid rl
  have HRB : Hid (∀ W, Below w.heap.size w W → Rd W (Lt W.heap.size) 1 A1 B.length (bs B)) := fun W hW => (rdB.below hW fun _ h => h).more fun k hk => Nat.lt_of_lt_of_le hk hW.size
  have HM := Lib.hid cm
  have HM1 := Lib.hid cm1
  clear rl rdB cm cm1
  go_enter Try.func6, Try.ntmps6
  go_wp2_with fail
  refine (livesF _).mono ?_
  rintro e w1 ⟨rfl, hb1⟩
  have hs1 := hb1.size
  go_wp2_with fail
  refine (HE.out _).mono ?_
  rintro e w1' ⟨rfl, rfl⟩
  go_wp2_with fail
  refine (few_any A c l w1 (HRL.out.below hb1) lc HM.out).mono ?_
  rintro e w2 ⟨A2, c2, rfl, rl2, hl2, hm2, hf2⟩
  obtain ⟨hfl, hfe⟩ := fewF_size l
  have hb2 := below_fr_no hb1 hf2 hs1
  have hs2 := hb2.size
  clear hf2 hfe
  generalize fewF l = F at *
  go_wp2_with fail
  refine (frame_any A1 c1 B w2 (HRB.out _ hb2) hBc HM1.out).mono ?_
  intro e w3 hr3
  obtain ⟨A3, c3, rfl, rd3, hf3⟩ := hr3.open_
  have hb3 := below_fr_no hb2 hf3 hs2
  have hs3 := hb3.size
  have rl3 := rl2.below hf3.belowNo
  clear hr3 hf3 rl2
  go_wp2_with fail
  refine (rframe_any A1 c1 B w3 (HRB.out _ hb3) hBc HM1.out).mono ?_
  intro e w4 hr4
  obtain ⟨A4, c4, rfl, rd4, hf4⟩ := hr4.open_
  have hb4 := below_fr_no hb3 hf4 hs3
  have hs4 := hb4.size
  have rl4 := rl3.below hf4.belowNo
  have rd34 := (rd3.below hf4.belowNo fun _ h => h)
  clear hr4 rl3 rd3
  go_wp2_with fail
  refine (wrap_any A2 c2 F w4 rl4 (by omega)).mono ?_
  intro e w5 hr5
  obtain ⟨A5, c5, rfl, rd5, hf5⟩ := hr5.open_
  have hb5 := below_fr_no hb4 hf5 hs4
  have hs5 := hb5.size
  have rl5 := rl4.below hf5.belowNo
  have rd35 := (rd34.below hf5.belowNo fun k hk => Nat.lt_of_lt_of_le hk hf4.size)
  have rd45 := (rd4.below hf5.belowNo fun _ h => h)
  clear hr5 rl4 rd34 rd4
  go_wp2_with fail
  refine (rwrap_any A2 c2 F w5 rl5 (by omega)).mono ?_
  intro e w6 hr6
  obtain ⟨A6, c6, rfl, rd6, hf6⟩ := hr6.open_
  have hb6 := below_fr_no hb5 hf6 hs5
  have hs6 := hb6.size
  have h34 := hf4.size
  have h45 := hf5.size
  have h56 := hf6.size
  have rd36 := (rd35.below hf6.belowNo fun k hk => by unfold Lt at hk; omega)
  have rd46 := (rd45.below hf6.belowNo fun k hk => by unfold Lt at hk; omega)
  have rd56 := (rd5.below hf6.belowNo fun _ h => h)
  have HS : Hid (∀ W, Below w6.heap.size w6 W → Calls Try.prog 26 #[.slice A3 (wrapV [B]).length c3, .slice A4 (wrapV [B]).length c4] W fun e w' => e = .returned (.bool true) ∧ W = w') := fun W hW =>
    sameB_eq _ _ A3 A4 _ c3 _ c4 _ _ W rfl (rd36.below hW fun k hk => by unfold Lt at hk; omega) (rd46.below hW fun k hk => by unfold Lt at hk; omega)
  have HS2 : Hid (∀ W, Below w6.heap.size w6 W → Calls Try.prog 26 #[.slice A5 (wrapV F).length c5, .slice A6 (wrapV F).length c6] W fun e w' => e = .returned (.bool true) ∧ W = w') := fun W hW =>
    sameB_eq _ _ A5 A6 _ c5 _ c6 _ _ W rfl (rd56.below hW fun k hk => by unfold Lt at hk; omega) (rd6.below hW fun _ h => h)
  have HSU := Lib.hid (sumf_any _ A1 c1 B w6 (HRB.out _ hb6) (by omega))
  have HSR : Hid (∀ W, Below w6.heap.size w6 W → Calls Try.prog 37 #[.slice A1 B.length c1] W fun e w' => e = .returned (.int .u32 (sumF B : Int)) ∧ W = w') := fun W hW =>
    rsum_any _ A1 c1 B W ((HRB.out _ hb6).below hW fun _ h => h) (by omega)
  clear hr6 rd36 rd46 rd56 rd6 rd35 rd45 rd5 rl5 hf4 hf5 hf6 h34 h45 h56
  generalize (wrapV [B]).length = n1 at *
  generalize (wrapV F).length = n2 at *
  generalize wrapE [B] = e1 at *
  generalize wrapE F = e2 at *
  go_wp2_with (first
    | (go_at_call 36; refine HSU.out.mono ?_; rintro e w7 ⟨rfl, hb7⟩)
    | (go_at_call 37; refine (HSR.out _ hb7).mono ?_; rintro e w8 ⟨rfl, rfl⟩)
    | (go_at_call 26; refine (HS.out _ hb7).mono ?_; rintro e w8 ⟨rfl, rfl⟩)
    | (go_at_call 26; refine (HS2.out _ hb7).mono ?_; rintro e w8 ⟨rfl, rfl⟩))
  go_ret
  exact ⟨rfl, below_fresh hb6 hb7 hs6⟩
theorem frameBytes_in (A1 : Option Addr) (c1 : Nat) (b : List UInt8) (A : Option Addr) (c : Nat) (cells : List Value) (l : List (List UInt8)) (w : World)
    (rd1 : Rd w (Lt w.heap.size) 1 A1 b.length (bs b)) (lc1 : b.length ≤ c1) (cm1 : c1 ≤ maxLen) (rd : Rd w (Lt w.heap.size) 1 A l.length cells) (lc : l.length ≤ c) (cm : c ≤ maxLen) (hE : Each (RdB w) 1 cells l) :
    Calls Try.prog 6 #[.slice A1 b.length c1, .slice A l.length c] w (RetTrue w) := frameBytes_walk A1 c1 b A c l w rd1 lc1 cm1 (rdl_of rd hE) lc cm
end Go.Proofs.Ytjfbpnhkdlbinaa
