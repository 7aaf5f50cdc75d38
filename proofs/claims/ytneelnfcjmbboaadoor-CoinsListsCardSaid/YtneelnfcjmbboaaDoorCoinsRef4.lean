/- Contracts of the document's own answers for coins: Share, Between. -/
import Derived.Test.YtneelnfcjmbboaaDoorCoinsLaw3
import Derived.Test.YtneelnfcjmbboaaDoorCoinsLaw2
import Derived.Test.YtneelnfcjmbboaaDoorCoinsRef2
namespace Go.Proofs.YtneelnfcjmbboaaDoor
open Go.RowKit Go.My
set_option linter.unusedSimpArgs false
set_option linter.unusedVariables false

theorem refbetween_any (a lo hi : Int) (w : World) : Calls Tryd.prog 28 #[.int .i64 a, .int .i64 lo, .int .i64 hi] w fun e w' => e = .returned (.int .i64 (betweenF a lo hi)) ∧ w = w' := by
  by_cases h1 : hi < lo <;> by_cases h2 : a < lo <;> by_cases h3 : hi < a
  all_goals
    go_enter Tryd.func28, Tryd.ntmps28
    go_wp2
    go_ret
    refine ⟨?_, rfl⟩
    unfold betweenF
    simp
    try omega

/-- what is left behind k parts -/
def restF (a : Int) (p k : Nat) : Int := a / (p : Int) * ((p - k : Nat) : Int) + (((a % (p : Int)).toNat - k : Nat) : Int)
theorem restF_zero (a : Int) (p : Nat) (hp : 1 ≤ p) : restF a p 0 = a := by
  have h1 := Int.mul_ediv_add_emod a p
  have h2 : 0 ≤ a % (p : Int) := Int.emod_nonneg _ (by omega)
  unfold restF
  rw [Nat.sub_zero, Nat.sub_zero, Int.toNat_of_nonneg h2, Int.mul_comm]
  exact h1
theorem restF_in (a : Int) (p k : Nat) (ha : In64 a) (hp : 1 ≤ p) (hk : k ≤ p) : In64 (restF a p k) := by
  have h0 := restF_zero a p hp
  have h1 := div_bd a p (by omega)
  have h2 : 0 ≤ a % (p : Int) := Int.emod_nonneg _ (by omega)
  have h3 : a % (p : Int) < p := Int.emod_lt_of_pos _ (by omega)
  unfold restF at h0 ⊢
  rw [Nat.sub_zero, Nat.sub_zero] at h0
  obtain ⟨r, hr⟩ := Int.eq_ofNat_of_zero_le h2
  rw [hr] at h0 h3 ⊢
  rw [Int.toNat_natCast] at h0 ⊢
  generalize a / (p : Int) = q at *
  obtain ⟨d, rfl⟩ : ∃ d, p = k + d := ⟨p - k, by omega⟩
  rw [show k + d - k = d by omega]
  have e : q * ((k + d : Nat) : Int) = q * k + q * d := by rw [Int.natCast_add, Int.mul_add]
  rw [e] at h0
  unfold In64 at ha ⊢
  rcases Int.lt_or_le a 0 with h | h
  · have hq := (h1.2 h).2
    have m1 : q * (k : Int) ≤ (-1) * k := Int.mul_le_mul_of_nonneg_right (by omega) (by omega)
    have m2 : q * (d : Int) ≤ (-1) * d := Int.mul_le_mul_of_nonneg_right (by omega) (by omega)
    omega
  · have hq := (h1.1 h).1
    have m1 : 0 ≤ q * (k : Int) := Int.mul_nonneg hq (by omega)
    have m2 : 0 ≤ q * (d : Int) := Int.mul_nonneg hq (by omega)
    omega
/-- one part: the nearest number above -/
theorem share_step (a : Int) (p k : Nat) (ha : In64 a) (hk : k < p) : ∃ d e x, (restF a p k).tdiv ((p - k : Nat) : Int) = d ∧ (restF a p k).tmod ((p - k : Nat) : Int) = e ∧ (shareF a p)[k]? = some x ∧ ((0 < e ∧ d + 1 = x) ∨ (¬ 0 < e ∧ d = x)) ∧ In64 d ∧ In64 x ∧ restF a p k - x = restF a p (k + 1) := by
  obtain ⟨x, hx, ex⟩ := share_at a p k hk
  have hin := share_in a p ha (by omega) x (List.mem_of_getElem? hx)
  have h1 := div_bd a p (by omega)
  have h2 : 0 ≤ a % (p : Int) := Int.emod_nonneg _ (by omega)
  have h3 : a % (p : Int) < p := Int.emod_lt_of_pos _ (by omega)
  refine ⟨_, _, x, rfl, rfl, hx, ?_⟩
  unfold restF
  obtain ⟨r, hr⟩ := Int.eq_ofNat_of_zero_le h2
  rw [hr] at h3 ex ⊢
  rw [Int.toNat_natCast]
  have hq : In64 (a / (p : Int)) := by
    unfold In64 at ha ⊢
    rcases Int.lt_or_le a 0 with h | h
    · have := h1.2 h; omega
    · have := h1.1 h; omega
  generalize a / (p : Int) = q at *
  obtain ⟨d, hd⟩ : ∃ d, p - k = d + 1 := ⟨p - k - 1, by omega⟩
  have hd2 : p - (k + 1) = d := by omega
  rw [hd, hd2]
  obtain ⟨X, hX⟩ : ∃ X, X = q * ((d + 1 : Nat) : Int) + ((r - k : Nat) : Int) := ⟨_, rfl⟩
  rw [← hX]
  have hXe : q * ((d + 1 : Nat) : Int) = q * d + q := by rw [Int.natCast_add, Int.mul_add]; omega
  have hfl : X / ((d + 1 : Nat) : Int) = q ∧ X % ((d + 1 : Nat) : Int) = ((r - k : Nat) : Int) :=
    (Int.ediv_emod_unique (by omega)).2 ⟨by rw [hX, Int.mul_comm]; omega, by omega, by omega⟩
  have hlast : X - x = q * (d : Int) + ((r - (k + 1) : Nat) : Int) := by
    rw [hX, hXe, ex]
    split <;> omega
  rcases Int.lt_or_le (X.tmod ((d + 1 : Nat) : Int)) 0 with hneg | hpos
  · obtain ⟨f1, f2⟩ := fl_neg X ((d + 1 : Nat) : Int) (by omega) hneg
    have f3 : -((d + 1 : Nat) : Int) < X.tmod ((d + 1 : Nat) : Int) := Int.lt_tmod_of_pos X (by omega)
    have hxq : x = q + 1 := by rw [ex, if_pos (by omega)]
    refine ⟨.inr ⟨by omega, by omega⟩, ?_, hin, hlast⟩
    rw [show X.tdiv ((d + 1 : Nat) : Int) = x by omega]
    exact hin
  · obtain ⟨f1, f2⟩ := fl_pos X ((d + 1 : Nat) : Int) (by omega) hpos
    have hdq : X.tdiv ((d + 1 : Nat) : Int) = q := by omega
    refine ⟨?_, by rw [hdq]; exact hq, hin, hlast⟩
    by_cases hs : k < r
    · exact .inl ⟨by omega, by rw [ex, if_pos (by omega)]; omega⟩
    · exact .inr ⟨by omega, by rw [ex, if_neg (by omega)]; omega⟩

def RShRel (w : World) (a : Int) (p : Nat) (av ov iv : Value) (wr : World) : Prop :=
  ∃ k : Nat, k ≤ p ∧ iv = .int .i64 k ∧ av = .int .i64 (restF a p k) ∧ Own wr 2 1 ov k (is_ ((shareF a p).take k)) ∧ Fr No w wr ∧ Newer w.heap.size none ov.ownBlock

set_option maxHeartbeats 2000000 in
theorem refshare_any (a : Int) (p : Nat) (w : World) (ha : In64 a) (hp1 : 1 ≤ p) (hp2 : p ≤ 100) :
    Calls Tryd.prog 25 #[.int .i64 a, .int .i64 (p : Int)] w fun e w' => ∃ A c, e = .returned (.tuple #[.slice A p c, .int .i64 0]) ∧ (∃ F, Rd w' F 1 A p (is_ (shareF a p))) ∧ Below w.heap.size w w' := by
  have HA := Lib.hid ha
  have h1 : ¬ (p : Int) < 1 := by omega
  have h2 : ¬ (100 : Int) < p := by omega
  have hst : RShRel w a p (.int .i64 a) (.slice none 0 0) (.int .i64 0) w := ⟨0, Nat.zero_le _, rfl, by rw [restF_zero a p hp1], Own.nil _ _ _, Fr.refl _ _, .inl rfl⟩
  clear ha
  go_enter Tryd.func25, Tryd.ntmps25
  go_wp2
  go_loopw [0, 6, 7] (fun av ov iv wr => RShRel w a p av ov iv wr) (fun _ _ iv _ => p - (intOf iv).toNat)
  case atStart => exact hst
  case round =>
    clear hst
    obtain ⟨k, hk, rfl, rfl, hown, hfr, hnew⟩ := hrel
    by_cases hlt : k < p
    · obtain ⟨d, e, x, hd, he, hx, hcase, hdi, hxi, hrest⟩ := share_step a p k HA.out hlt
      have hX : Hid (k + 1 ≤ maxLen ∧ (k + 1) * 8 ≤ 140737488355328) := by
        refine ⟨?_, ?_⟩ <;> (try simp only [maxLen]) <;> omega
      have hri := restF_in a p k HA.out hp1 hk
      have hri2 := restF_in a p (k + 1) HA.out hp1 hlt
      have HTK : Hid ((shareF a p).take (k + 1) = (shareF a p).take k ++ [x]) := by
        show _ = _
        rw [List.take_add_one, hx]
        rfl
      have hN : (p : Int) - k = ((p - k : Nat) : Int) := by omega
      have hN0 : ¬ ((p - k : Nat) : Int) = 0 := by omega
      have hN1 : (0 : Int) < ((p - k : Nat) : Int) := by omega
      unfold In64 at hdi hxi hri hri2
      generalize restF a p k = X at *
      generalize hY : restF a p (k + 1) = Y at *
      have HY := Lib.hid hY
      clear hY
      generalize ((p - k : Nat) : Int) = N at *
      have HR2 := Lib.hid hri2
      clear hx hri hri2
      rcases hcase with ⟨c1, c2⟩ | ⟨c1, c2⟩
      all_goals
        go_wp2_with (at_builtin; refine wpList_app _ rfl (.tmp 33) (.tmp 35) 30 30 rfl elI (hown.alloc _) rfl (Src.of_new wr.heap.size (heap_alloc_new wr _) Tryd.underlying30 rfl (by simp [Value.oneCell'])) rfl hX.out.1 hX.out.2 ?_; intro v1 w3 hown3 hfr3 hnew3)
        go_roundw
        case rel =>
          refine ⟨k + 1, by omega, by go_num, ?_, ?_, ?_, ?_⟩
          · rw [HY.out, show wrap64 Y = Y by have h8 := wrap64_eq Y; have h9 := HR2.out; omega]
          · rw [HTK.out, is_append]
            exact hown3
          · exact fr_no (hfr.alloc _) hnew hfr3
          · exact hnew.trans (Newer.of hnew3) (by have := hfr.size; simp; omega)
        case measure => simp [intOf]; omega
    · obtain rfl : k = p := by omega
      rw [List.take_of_length_le (by rw [shareF_length]; exact Nat.le_refl _)] at hown
      obtain ⟨A, c, rfl, _, _⟩ := hown.form
      go_wp2
      go_ret2
      exact ⟨A, c, rfl, ⟨_, hown.rd⟩, hfr.belowNo⟩
end Go.Proofs.YtneelnfcjmbboaaDoor
