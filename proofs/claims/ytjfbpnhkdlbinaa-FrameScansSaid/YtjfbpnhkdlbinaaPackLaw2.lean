/- The laws of package pack, as walks: PackOnce. -/
import Derived.Test.YtjfbpnhkdlbinaaPackLaw
import Derived.Test.YtjfbpnhkdlbinaaPackSpec
import Derived.RegionCalls
namespace Go.Proofs.Ytjfbpnhkdlbinaa
open Go.RowKit Go.My
set_option linter.unusedSimpArgs false
set_option linter.unusedVariables false

theorem early2_any (A : Option Addr) (n c : Nat) (w : World) (h1 : n ≤ c) (h2 : c ≤ maxLen) :
    Calls Try.prog 25 #[.slice A n c] w fun e w' => e = .returned (.slice A (min n 300) c) ∧ w = w' := by
  unfold maxLen at h2
  go_enter Try.func25, Try.ntmps25
  go_wp2
  all_goals go_ret
  · exact ⟨by rw [show min n 300 = 300 by omega]; rfl, rfl⟩
  · exact ⟨by rw [show min n 300 = n by omega]; rfl, rfl⟩

theorem sameB_any (F G : Nat → Prop) (A B : Option Addr) (n c m d : Nat) (l r : List UInt8) (w : World) (hl : Rd w F 1 A n (bs l)) (hr : Rd w G 1 B m (bs r)) :
    Calls Try.prog 26 #[.slice A n c, .slice B m d] w fun e w' => e = .returned (.bool (decide (l = r))) ∧ w = w' := by
  have h1 := run_str_of_bytes (P := Try.prog) (c := c) 25 9 5 Try.underlying25 Try.underlying5 Try.underlying9 hl
  have h2 := run_str_of_bytes (P := Try.prog) (c := d) 25 9 5 Try.underlying25 Try.underlying5 Try.underlying9 hr
  clear hl hr
  go_enter Try.func26, Try.ntmps26
  go_wp2
  go_ret
  exact ⟨by rw [show (l == r) = decide (l = r) by rw [Bool.eq_iff_iff]; simp]; rfl, rfl⟩

theorem sameB_eq (F G : Nat → Prop) (A B : Option Addr) (n c m d : Nat) (l r : List UInt8) (w : World) (hlr : l = r) (hl : Rd w F 1 A n (bs l)) (hr : Rd w G 1 B m (bs r)) :
    Calls Try.prog 26 #[.slice A n c, .slice B m d] w fun e w' => e = .returned (.bool true) ∧ w = w' := by
  have h := sameB_any F G A B n c m d l r w hl hr
  rwa [decide_eq_true hlr] at h

def SameRel (l r : List Int) (w : World) (i : Value) (wr : World) : Prop :=
  ∃ k j : Nat, k ≤ l.length ∧ i = .int .i64 k ∧ l.take k = r.take k ∧ wr = w.drewN j

set_option maxHeartbeats 400000 in
theorem sameI_any (F G : Nat → Prop) (A B : Option Addr) (c d : Nat) (l r : List Int) (w : World) (hl : Rd w F 1 A l.length (is_ l)) (hr : Rd w G 1 B r.length (is_ r)) (hsz : l.length ≤ 1000000000) :
    Calls Try.prog 21 #[.slice A l.length c, .slice B r.length d] w fun e w' => e = .returned (.bool (decide (l = r))) ∧ ∃ n, w' = w.drewN n := by
  by_cases hlen : l.length = r.length
  · have hz : ((l.length : Int) != (r.length : Int)) = false := by rw [bne_eq_false_iff_eq]; omega
    have HL := Lib.hid hlen
    have HA := Lib.hid hl
    have HB := Lib.hid hr
    clear hlen hl hr
    go_enter Try.func21, Try.ntmps21
    go_wp2
    go_loopw [5] (fun a wr => SameRel l r w a wr) (fun a _ => l.length - (intOf a).toNat)
    case atStart => exact ⟨0, 0, Nat.zero_le _, rfl, rfl, rfl⟩
    case round =>
      obtain ⟨k, j, hk, rfl, heq, rfl⟩ := hrel
      have HE := Lib.hid heq
      clear heq
      by_cases hlt : k < l.length
      · have hlt2 : k < r.length := by have := HL.out; omega
        obtain ⟨ad, u, rfl, _, hx, hc⟩ := HA.out.at_ hlt
        obtain ⟨bd, u2, rfl, _, hx2, hc2⟩ := HB.out.at_ hlt2
        rw [is_get l k hlt] at hx
        rw [is_get r k hlt2] at hx2
        injection hx with hx
        injection hx2 with hx2
        subst hx
        subst hx2
        have e1 : l.take (k + 1) = l.take k ++ [l[k]] := List.take_succ_eq_append_getElem hlt
        have e2 : r.take (k + 1) = r.take k ++ [r[k]] := List.take_succ_eq_append_getElem hlt2
        have hc' : (w.drewN j).cell? (ad.add k) = some (.int .i64 l[k]) := hc
        have hc2' : (w.drewN j).cell? (bd.add k) = some (.int .i64 r[k]) := hc2
        by_cases hxy : l[k] = r[k]
        · have hb : (l[k] != r[k]) = false := by rw [bne_eq_false_iff_eq]; exact hxy
          have E : Hid (l.take (k + 1) = r.take (k + 1)) := by show _ = _; rw [e1, e2, HE.out, hxy]
          clear e1 e2 hxy
          generalize l[k] = x at *
          generalize r[k] = y at *
          go_wp2
          go_quiet (fail)
          go_wp2
          go_roundw
          case rel => exact ⟨k + 1, _, by omega, by go_num, E.out, rfl⟩
          case measure => simp [intOf]; omega
        · have hb : (l[k] != r[k]) = true := by rw [bne_iff_ne]; exact hxy
          have E : Hid (l ≠ r) := by
            intro h
            subst h
            exact hxy rfl
          clear e1 e2 hxy
          generalize l[k] = x at *
          generalize r[k] = y at *
          go_wp2
          go_quiet (fail)
          go_wp2
          go_ret
          exact ⟨by rw [decide_eq_false E.out]; rfl, _, World.drewN_drewN _ _ _⟩
      · have : k = l.length := by omega
        subst this
        go_wp2
        go_ret
        have h1 := HE.out
        rw [List.take_length, HL.out, List.take_length] at h1
        exact ⟨by rw [decide_eq_true h1]; rfl, _, rfl⟩
  · have hz : ((l.length : Int) != (r.length : Int)) = true := by rw [bne_iff_ne]; omega
    have HL := Lib.hid hlen
    clear hlen hl hr
    go_enter Try.func21, Try.ntmps21
    go_wp2
    go_ret
    exact ⟨by rw [decide_eq_false (fun h => HL.out (by rw [h]))]; rfl, 0, rfl⟩

theorem own_nil {w : World} {e : TypeId} {v : Value} (h : Own w e 1 v 0 []) : ∃ A c, v = .slice A 0 c := by
  obtain ⟨A, c, hv, _⟩ := h.form
  exact ⟨A, c, hv⟩

set_option maxHeartbeats 1000000 in
theorem packOnce_walk (A : Option Addr) (c : Nat) (l : List UInt8) (a : Int) (w : World) (rd : Rd w (Lt w.heap.size) 1 A l.length (bs l)) (lc : l.length ≤ c) (cm : c ≤ maxLen)
    (ha : -9223372036854775808 ≤ a ∧ a ≤ 9223372036854775807) : Calls Try.prog 4 #[.slice A l.length c, .int .i64 a] w (RetTrue w) := by
  obtain ⟨hB1, hB2⟩ : (l.take 300).length = min l.length 300 ∧ (l.take 300).length ≤ 300 := by constructor <;> simp <;> omega
  have rdB : Rd w (Lt w.heap.size) 1 A (min l.length 300) (bs (l.take 300)) := by
    have := rd.take (k := min l.length 300) (by omega)
    rw [Nat.mul_one, ← bs_take] at this
    have e : l.take (min l.length 300) = l.take 300 := by
      rcases Nat.le_total l.length 300 with h | h
      · rw [Nat.min_eq_left h, List.take_length, List.take_of_length_le h]
      · rw [Nat.min_eq_right h]
    rwa [e] at this
  have hcB : min l.length 300 ≤ c := by omega
  have HE := Lib.hid (fun W => early2_any A l.length c W lc cm)
  have hcm : c ≤ 9223372036854775807 := by simp only [maxLen] at cm; omega
  clear rd lc cm
  generalize l.take 300 = B at hB1 hB2 rdB
  generalize min l.length 300 = n at hB1 rdB hcB HE
  have hnB : Hid (n = B.length) := hB1.symm
  clear hB1
  go_enter Try.func4, Try.ntmps4
  go_wp2_with fail
  refine (livesP _).mono ?_
  rintro e w1 ⟨rfl, hb1⟩
  go_wp2_with fail
  refine (HE.out _).mono ?_
  rintro e w1' ⟨rfl, rfl⟩
  have rd1 : Rd w1 (Lt w.heap.size) 1 A n (bs B) := rdB.below hb1 fun _ h => h
  have hs1 := hb1.size
  go_wp2_with fail
  have hn300 : n ≤ 300 := by have := hnB.out; omega
  have hnew := new_rd _ A n c B w1 hnB.out.symm rd1 (by omega)
  refine hnew.mono ?_
  clear hnew
  rintro e w2 ⟨p, q, rfl, hr2, hf2, hp, hq⟩
  have hb2 : Below w.heap.size w w2 := below_fr hb1 hf2 hs1 (fun i hi => False.elim hi)
  have hs2 := hb2.size
  have hpp : ∀ i, At1 p i → w.heap.size ≤ i := fun i hi => by rw [At1] at hi; omega
  go_wp2_with fail
  refine (rnums_at p q 300 B 0 _ hr2 (by omega) (by omega)).mono ?_
  rintro e w3 ⟨v3, rfl, ho3, hr3, hf3, hn3⟩
  have hb3 : Below w.heap.size w w3 := below_fr hb2 hf3 hs2 hpp
  have hs3 := hb3.size
  have rd3 : Rd w3 (Lt w.heap.size) 1 A n (bs B) := rdB.below hb3 fun _ h => h
  have hbad := rnums_bad 300 B
  have hok := rnums_only 300 B
  have herr := rnums_err 300 B 0 (by omega)
  have hI : I64s (rnums 300 B 0).1 := by
    unfold rnums
    split
    · intro x hx; simp at hx
    · exact rmany_i64 _ _ _
  generalize rnums 300 B 0 = R at ho3 hr3 hbad hok herr hI
  obtain ⟨xs, er, rest⟩ := R
  simp only at ho3 hr3 hbad hok herr hI
  clear hr2 hf2 hf3 rdB rd1
  obtain ⟨A3, c3, rfl, hc3, hc3'⟩ := ho3.form
  by_cases he : er = 0
  · obtain ⟨hB, hx⟩ := hok he
    subst he
    have hz : (((0 : Nat) : Int) != 0) = false := by rfl
    obtain ⟨N, hN⟩ : ∃ N, N = (encNums xs).length := ⟨_, rfl⟩
    have hNn : N + rest.length = n := by rw [hnB.out, hB, List.length_append, hN]
    have hN0 : 0 < N := by
      rw [hN]
      have := enc_length_pos (zig xs.length)
      simp only [encNums, List.length_append]
      omega
    have HB := Lib.hid hB
    have HN := Lib.hid hN
    have hNi : (n : Int) - (rest.length : Int) = (N : Int) := by omega
    have HL := Lib.hid (left_at p q rest 0 w3 hr3)
    have HX := Lib.hid hx
    clear hB hN hok hbad hx
    have hN300 : N ≤ 4611686018427387904 := by have := hnB.out; omega
    obtain ⟨k, hk, hkN⟩ := umod a N hN0 hN300
    have rdk : Rd w3 (Lt w.heap.size) 1 A k (bs (B.take k)) := by
      have := rd3.take (k := k) (by omega)
      rwa [Nat.mul_one, ← bs_take] at this
    have hBk : (B.take k).length = k := by rw [List.length_take, ← hnB.out]; omega
    have HK := Lib.hid hBk
    have hnew := new_rd _ A k c (B.take k) w3 hBk rdk (by omega)
    have HW := Lib.hid hnew
    clear hnew hBk
    go_wp2_with (first
      | (go_at_call 24; refine HL.out.mono ?_; rintro e w4 ⟨rfl, rfl⟩))
    refine HW.out.mono ?_
    rintro e w4 ⟨p4, q4, rfl, hr4, hf4, hp4, hq4⟩
    have hb4 : Below w.heap.size w w4 := below_fr hb3 hf4 hs3 (fun i hi => False.elim hi)
    have hs4 := hb4.size
    have hpp4 : ∀ i, At1 p4 i → w.heap.size ≤ i := fun i hi => by rw [At1] at hi; omega
    go_wp2_with fail
    have htorn : (rnums 300 (B.take k) 0).2.1 = 4 := by
      rw [HB.out, List.take_append_of_le_length (by rw [← HN.out]; omega)]
      exact rnums_torn 300 xs k hI HX.out (by have := HX.out; omega) (by rw [← HN.out]; exact hkN)
    refine (rnums_at p4 q4 300 (B.take k) 0 _ hr4 (by omega) (by have := HK.out; omega)).mono ?_
    rw [htorn]
    rintro e w5 ⟨v5, rfl, ho5, hr5, hf5, hn5⟩
    have hb5 : Below w.heap.size w w5 := below_fr hb4 hf5 hs4 hpp4
    have hs5 := hb5.size
    have hnb : ∀ g, (Value.slice A3 xs.length c3).ownBlock = some g → g < w3.heap.size := fun g hg => ho3.lt g hg
    have ho45 : Own w5 2 1 (Value.slice A3 xs.length c3) xs.length (is_ xs) := by
      have h4 := ho3.fr hf4 (fun k _ h => h)
      exact h4.fr hf5 (fun g hg h => by have := hnb g hg; rw [At1] at h; omega)
    have rd5 : Rd w5 (Lt w.heap.size) 1 A N (bs (B.take N)) := by
      have := rd3.take (k := N) (by omega)
      rw [Nat.mul_one, ← bs_take] at this
      have h5 : Below w.heap.size w3 w5 := ((Below.refl _ w3).trans (hf4.belowNo.mono hs3)).trans (hf5.below_at (by omega) (fun i hi h => by rw [At1] at h; omega))
      exact this.below h5 fun _ h => h
    have hBN : Hid (encNums xs = B.take N) := by
      show _ = _
      rw [HB.out, HN.out, List.take_left]
    have hxl : xs.length ≤ 300 := by have := HX.out; omega
    have hnum : Calls Try.prog 17 #[.slice A3 xs.length c3] w5.drew fun e w6 => ∃ A6 c6, e = .returned (.slice A6 (encNums xs).length c6) ∧ Rd w6 (fun _ => True) 1 A6 (encNums xs).length (bs (encNums xs)) ∧
        Rd w6 (Lt w.heap.size) 1 A N (bs (B.take N)) ∧ Below w.heap.size w w6 := by
      refine (nums_any _ A3 c3 xs w5.drew (Own.rd (w := w5.drew) ho45) hI (by omega)).mono ?_
      rintro e w6 ⟨v6, rfl, ho6, hf6, hn6⟩
      obtain ⟨A6, c6, rfl, _, _⟩ := ho6.form
      have hb56 : Below w.heap.size w5 w6 := (Below.refl _ w5).drew.trans (hf6.below_at hs5 (fun i _ h => by simp [AtO] at h))
      exact ⟨A6, c6, rfl, ho6.rd.more (fun _ _ => trivial), rd5.below hb56 (fun _ h => h), hb5.trans hb56⟩
    have HNUM := Lib.hid hnum
    clear hnum hr4 hf4 hf5 ho5 hr5 hn5 ho3 hn3 rd3 rdk htorn hr3
    go_wp2_with fail
    go_region_with (first | (go_at_call 17; refine HNUM.out.mono ?_; rintro e w6 ⟨A6, c6, rfl, rd6, rdB6, hb6⟩) | (go_at_call 26; refine (sameB_eq _ _ _ _ _ _ _ _ _ _ _ hBN.out rd6 rdB6).mono ?_; rintro e w7 ⟨rfl, rfl⟩))
    all_goals
      go_wp2
      go_ret
      exact ⟨rfl, hb6⟩
  · obtain ⟨hrest, hxs⟩ := hbad he
    subst hrest
    subst hxs
    have hz : ((er : Int) != 0) = true := by rw [bne_iff_ne]; omega
    have hdone : doneE [] er = er := by unfold doneE; rw [if_neg he]
    have HD := Lib.hid (done_at p q [] er w3 hr3 herr)
    rw [hdone] at HD
    have HL := Lib.hid (left_at p q [] er w3 hr3)
    clear hdone hbad hok
    have HEE := Lib.hid he
    clear he
    go_wp2_with (first
      | (go_at_call 24; refine HL.out.mono ?_; rintro e w4 ⟨rfl, rfl⟩)
      | (go_at_call 23; refine HD.out.mono ?_; rintro e w4 ⟨rfl, hr4, hf4⟩))
    go_ret
    exact ⟨rfl, below_fr hb3 hf4 hs3 hpp⟩
end Go.Proofs.Ytjfbpnhkdlbinaa
