/- The laws of package coins, as walks: CoinsLists. -/
import Derived.Test.YtneelnfcjmbboaaDoorCoinsRef4
import Derived.Test.YtneelnfcjmbboaaDoorArr
namespace Go.Proofs.YtneelnfcjmbboaaDoor
open Go.RowKit Go.My
set_option linter.unusedSimpArgs false
set_option linter.unusedVariables false

theorem share_no (a m : Int) (w : World) (h : m < 1 ∨ 100 < m) : Calls Tryd.prog 24 #[.int .i64 a, .int .i64 m] w fun e w' => e = .returned (.tuple #[.slice none 0 0, .int .i64 1]) ∧ w = w' := by
  rcases h with h | h
  all_goals
    have h' : ¬ 100 < m ∨ ¬ m < 1 := by omega
    clear h'
    go_enter Tryd.func24, Tryd.ntmps24
    go_wp2
    go_ret2
    exact ⟨rfl, rfl⟩
theorem refshare_no (a m : Int) (w : World) (h : m < 1 ∨ 100 < m) : Calls Tryd.prog 25 #[.int .i64 a, .int .i64 m] w fun e w' => e = .returned (.tuple #[.slice none 0 0, .int .i64 1]) ∧ w = w' := by
  rcases h with h | h
  all_goals
    go_enter Tryd.func25, Tryd.ntmps25
    go_wp2
    go_ret2
    exact ⟨rfl, rfl⟩

/-- in parts, or that there is none: of both -/
theorem shares (a m : Int) (ha : In64 a) : ∃ (L : List Int) (e : Int), L.length ≤ 100 ∧
    (∀ W, Calls Tryd.prog 24 #[.int .i64 a, .int .i64 m] W fun en W' => ∃ A c, en = .returned (.tuple #[.slice A L.length c, .int .i64 e]) ∧ Rd W' (Lt W'.heap.size) 1 A L.length (is_ L) ∧ Below W.heap.size W W') ∧
    (∀ W, Calls Tryd.prog 25 #[.int .i64 a, .int .i64 m] W fun en W' => ∃ A c, en = .returned (.tuple #[.slice A L.length c, .int .i64 e]) ∧ Rd W' (Lt W'.heap.size) 1 A L.length (is_ L) ∧ Below W.heap.size W W') := by
  by_cases hm : m < 1 ∨ 100 < m
  · refine ⟨[], 1, by simp, fun W => (share_no a m W hm).mono ?_, fun W => (refshare_no a m W hm).mono ?_⟩
    · rintro en W' ⟨rfl, rfl⟩
      exact ⟨none, 0, rfl, Rd.none_, Below.refl _ _⟩
    · rintro en W' ⟨rfl, rfl⟩
      exact ⟨none, 0, rfl, Rd.none_, Below.refl _ _⟩
  · obtain ⟨p, rfl⟩ := Int.eq_ofNat_of_zero_le (show 0 ≤ m by omega)
    have hl := shareF_length a p
    refine ⟨shareF a p, 0, by omega, fun W => ?_, fun W => ?_⟩
    · rw [hl]
      refine (share_any a p W ha (by omega) (by omega)).mono ?_
      rintro en W' ⟨A, rfl, hr, hb⟩
      exact ⟨A, p, rfl, hr, hb⟩
    · rw [hl]
      refine (refshare_any a p W ha (by omega) (by omega)).mono ?_
      rintro en W' ⟨A, c, rfl, ⟨F, hr⟩, hb⟩
      exact ⟨A, c, rfl, rd_lt hr (by omega), hb⟩

set_option maxHeartbeats 2000000 in
theorem coinsLists_walk (A : Option Addr) (c : Nat) (l : List Int) (v : Value) (x : Int × Int × Int) (m : Int) (w : World) (rd : Rd w (Lt w.heap.size) 1 A l.length (is_ l)) (lc : l.length ≤ c) (cm : c ≤ maxLen) (hI : I64s l)
    (hx : IsArr3 v x) (hm : -9223372036854775808 ≤ m ∧ m ≤ 9223372036854775807) :
    Calls Tryd.prog 5 #[.slice A l.length c, v, .int .i64 m] w (RetTrue w) := by
  obtain ⟨x1, x2, x3⟩ := x
  obtain ⟨rfl, h1, h2, h3⟩ := hx
  simp only at h1 h2 h3 ⊢
  have hcm : c ≤ 9223372036854775807 := by simp only [maxLen] at cm; omega
  have hmin : min (l.length : Int) 200 = ((min l.length 200 : Nat) : Int) := by omega
  have hmx : max ((min l.length 200 : Nat) : Int) 0 = ((min l.length 200 : Nat) : Int) := by omega
  obtain ⟨L, hL, hLl, rdL, hIL⟩ : ∃ L : List Int, L.length = min l.length 200 ∧ L.length ≤ 200 ∧ Rd w (Lt w.heap.size) 1 A (min l.length 200) (is_ L) ∧ ∀ x ∈ L, In64 x := by
    refine ⟨l.take (min l.length 200), by simp, by simp; omega, ?_, fun x hx => hI x (List.mem_of_mem_take hx)⟩
    have := rd.take (k := min l.length 200) (by omega)
    simpa [is_] using this
  rw [← hL] at rdL hmin hmx
  have hNc : L.length ≤ c := by omega
  obtain ⟨SL, se, hS1, hS2, hS3⟩ := shares x1 m h1
  have HSH := Lib.hid hS2
  have HSR := Lib.hid hS3
  have HT1 : Hid (∀ W c', Below w.heap.size w W → Calls Tryd.prog 22 #[.slice A L.length c'] W fun e w' => e = .returned (two64 (total L)) ∧ W = w') := fun W c' hb =>
    total_any (Lt w.heap.size) A c' L W (rdL.below hb fun _ h => h) hIL (by omega)
  have HT2 : Hid (∀ W c', Below w.heap.size w W → Calls Tryd.prog 23 #[.slice A L.length c'] W fun e w' => e = .returned (two64 (total L)) ∧ Below W.heap.size W w') := fun W c' hb =>
    reftotal_any A c' L W (rd_lt (rdL.below hb fun _ h => h) (by omega)) hIL (by omega)
  have HB1 : Hid (∀ W n, Calls Tryd.prog 27 #[.int .i64 x1, .int .i64 x2, .int .i64 x3] (World.drewN W n) fun e w' => e = .returned (.int .i64 (betweenF x1 x2 x3)) ∧ w' = World.drewN W n) := fun W n =>
    (between_any x1 x2 x3 _ h1 h2 h3).mono fun _ _ h => ⟨h.1, h.2.symm⟩
  have HB2 : Hid (∀ W n, Calls Tryd.prog 28 #[.int .i64 x1, .int .i64 x2, .int .i64 x3] (World.drewN W n) fun e w' => e = .returned (.int .i64 (betweenF x1 x2 x3)) ∧ w' = World.drewN W n) := fun W n =>
    (refbetween_any x1 x2 x3 _).mono fun _ _ h => ⟨h.1, h.2.symm⟩
  clear rd hI rdL hIL hm h1 h2 h3 hS2 hS3
  unfold two64 at HT1 HT2
  generalize sumV (total L) = v0 at *
  generalize ((sumN (total L) : Nat) : Int) = e0 at *
  generalize betweenF x1 x2 x3 = bt at *
  generalize L.length = N at *
  clear hL
  go_enter Tryd.func5, Tryd.ntmps5
  go_wp2_with fail
  refine (livesC _).mono ?_
  rintro e w1 ⟨rfl, hb1⟩
  have hk1 : Blk w1 w.heap.size 31 #[.int .i64 x1, .int .i64 x2, .int .i64 x3] := (Blk.new w _ _).below hb1 (by simp)
  have hb1' : Below w.heap.size w w1 := ((Below.refl _ _).alloc (Nat.le_refl _) _).trans (hb1.mono (by simp))
  clear hb1
  go_wp2_with fail
  refine (HT1.out _ _ hb1').mono ?_
  rintro e w2 ⟨rfl, rfl⟩
  go_wp2_with fail
  refine (HT2.out _ _ hb1').mono ?_
  rintro e w2 ⟨rfl, hb2⟩
  have hk2 := hk1.below hb2 hk1.lt
  have hb2' := below_fresh hb1' hb2 hb1'.size
  clear hk1 hb2
  have c0 := hk2.cell 0
  simp only [List.getElem?_toArray, List.getElem?_cons_zero, List.getElem?_cons_succ] at c0
  go_wp2_with fail
  refine (HSH.out _).mono ?_
  rintro e w3 ⟨A3, c3, rfl, hr3, hb3⟩
  have hk3 := hk2.below hb3 hk2.lt
  have hb3' := below_fresh hb2' hb3 hb2'.size
  clear hk2 hb3 c0
  have c0 := hk3.cell 0
  simp only [List.getElem?_toArray, List.getElem?_cons_zero, List.getElem?_cons_succ] at c0
  go_wp2_with fail
  refine (HSR.out _).mono ?_
  rintro e w4 ⟨A4, c4, rfl, hr4, hb4⟩
  have hk4 := hk3.below hb4 hk3.lt
  have hb4' := below_fresh hb3' hb4 hb3'.size
  have hr3' : Rd w4 (Lt w3.heap.size) 1 A3 SL.length (is_ SL) := hr3.below hb4 fun _ h => h
  clear hk3 hb4 c0
  have c0 := hk4.cell 0
  have c1 := hk4.cell 1
  have c2 := hk4.cell 2
  simp only [List.getElem?_toArray, List.getElem?_cons_zero, List.getElem?_cons_succ] at c0 c1 c2
  have HSM : Hid (∀ n, Calls Tryd.prog 26 #[.slice A3 SL.length c3, .slice A4 SL.length c4] (w4.drewN n) fun e w' => e = .returned (.bool true) ∧ ∃ m, w' = (w4.drewN n).drewN m) := fun n =>
    (sameI_any _ _ A3 A4 c3 c4 SL SL (w4.drewN n) (hr3'.drewN n) (hr4.drewN n) (by omega)).mono fun _ _ h => ⟨by rw [h.1]; simp, h.2⟩
  have HEND : Hid (∀ n, Below w.heap.size w (w4.drewN n)) := fun n => below_drewN hb4' n
  clear hr3 hr4 hr3' hk4 HT1 HT2 HSH HSR
  go_wp2_with fail
  have e1 : (v0 == v0) = true := by simp
  have e2 : (e0 == e0) = true := by simp
  have e3 : (se == se) = true := by simp
  have e4 : (bt == bt) = true := by simp
  go_quiet (first
    | (go_at_call 26; exact Calls.quiet_of (HSM.out _))
    | (go_at_call 27; exact Calls.quiet_of_same (HB1.out _ _))
    | (go_at_call 28; exact Calls.quiet_of_same (HB2.out _ _)))
  go_wp2
  go_ret
  exact ⟨rfl, HEND.out _⟩
end Go.Proofs.YtneelnfcjmbboaaDoor
