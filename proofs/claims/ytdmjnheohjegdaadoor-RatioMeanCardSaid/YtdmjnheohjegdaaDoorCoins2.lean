/- Contracts of package coins: parts, and what the laws call first. -/
import Derived.Test.YtdmjnheohjegdaaDoorCoins
import Derived.Test.YtdmjnheohjegdaaDoorKit
import Derived.Deep.DeepCutAuto
namespace Go.Proofs.YtdmjnheohjegdaaDoor
open Go.RowKit Go.My
set_option linter.unusedSimpArgs false
set_option linter.unusedVariables false

theorem fmtu_small (n : Nat) (w : World) (hn : n < 100) : Calls Tryd.prog 35 #[.int .u64 (n : Int), .int .i64 10] w fun e w' => e = .returned (.string ⟨(Lib.decDigits n).toArray⟩) ∧ w' = w := by
  have hn' : (n : Int) < 100 := by omega
  have hw := wrap64_eq (n : Int)
  have hw' : wrap64 (n : Int) = n := by omega
  have HI : Calls Tryd.prog 42 #[.int .u64 (n : Int), .int .i64 10] w fun e w' => e = .returned (.string ⟨(Lib.decDigits n).toArray⟩) ∧ w' = w := by
    clear hw
    go_enter Tryd.func42, Tryd.ntmps42
    go_wp2_with (go_at_call 52; refine (Tryd.internal_strconv_small _ hn _).mono ?_; rintro e w1 ⟨rfl, rfl⟩)
    go_ret
    exact ⟨rfl, rfl⟩
  have HI' := Lib.hid HI
  clear HI hn hn' hw hw'
  go_enter Tryd.func35, Tryd.ntmps35
  go_wp2_with (go_at_call 42; refine HI'.out.mono ?_; rintro e w1 ⟨rfl, rfl⟩)
  go_ret
  exact ⟨rfl, rfl⟩
/-- how many digits behind the point -/
def withF (d : Int) : Nat := (max 0 (min d 6)).toNat
theorem withF_le (d : Int) : withF d ≤ 6 := by unfold withF; omega
theorem within_any (d : Int) (w : World) : Calls Tryd.prog 34 #[.int .i64 d] w fun e w' => e = .returned (.int .i64 (withF d : Int)) ∧ w = w' := by
  go_enter Tryd.func34, Tryd.ntmps34
  go_wp2
  all_goals
    go_ret
    refine ⟨?_, by trivial⟩
    unfold withF
    simp
    try omega

theorem ba_append (l r : List UInt8) : (⟨l.toArray⟩ ++ ⟨r.toArray⟩ : ByteArray) = ⟨(l ++ r).toArray⟩ := by
  apply ByteArray.ext
  simp
theorem ba_extract (l : List UInt8) (i j : Nat) : (⟨l.toArray⟩ : ByteArray).extract i j = ⟨((l.take j).drop i).toArray⟩ := by
  apply ByteArray.ext
  simp [ByteArray.data_extract, List.drop_take]
theorem repeat_zero (m : Nat) : Lib.repeatL [48] m = List.replicate m 48 := by
  induction m with
  | zero => rfl
  | succ m ih => rw [Lib.repeatL, ih, List.replicate_succ]; rfl
/-- a text: its digits, at least one ahead of the point -/
def padF (k : Nat) (D : List UInt8) : List UInt8 := List.replicate (k + 1 - D.length) 48 ++ D
def pointF (k : Nat) (D : List UInt8) : List UInt8 := if k = 0 then D else D.take (D.length - k) ++ 46 :: D.drop (D.length - k)
def textD (neg : Bool) (k : Nat) (D : List UInt8) : List UInt8 := (if neg then [45] else []) ++ pointF k (padF k D)

set_option maxHeartbeats 1000000 in
theorem text_of (a d : Int) (D : List UInt8) (w : World) (ha : In64 a) (hD : D.length ≤ 1000) (HF : ∀ W, Below w.heap.size w W → Calls Tryd.prog 35 #[.int .u64 (a.natAbs : Int), .int .i64 10] W fun e W' => e = .returned (.string ⟨D.toArray⟩) ∧ Below w.heap.size w W') :
    Calls Tryd.prog 27 #[.int .i64 a, .int .i64 d] w fun e w' => e = .returned (.string ⟨(textD (decide (a < 0)) (withF d) D).toArray⟩) ∧ Below w.heap.size w w' := by
  have HSZ := Lib.hid fun W => size_any a W ha
  have HFF := Lib.hid HF
  have HW := Lib.hid fun W => within_any d W
  have hk := withF_le d
  clear ha HF
  generalize withF d = k at *
  go_enter Tryd.func27, Tryd.ntmps27
  go_wp2_with fail
  refine (HW.out _).mono ?_
  rintro e w1 ⟨rfl, rfl⟩
  go_wp2_with fail
  refine (HSZ.out _).mono ?_
  rintro e w1 ⟨rfl, rfl⟩
  go_wp2_with fail
  refine (HFF.out _ (Below.refl _ _)).mono ?_
  rintro e w1 ⟨rfl, hb1⟩
  have hP : ∃ P, P = padF k D := ⟨_, rfl⟩
  obtain ⟨P, hP⟩ := hP
  have hPl : k + 1 ≤ P.length := by rw [hP]; unfold padF; simp; omega
  have hPm : P.length ≤ 2000 := by rw [hP]; unfold padF; simp; omega
  have HP := Lib.hid hP
  have hfin : ∀ Z : List UInt8, Z = textD (decide (a < 0)) k D → Value.string ⟨Z.toArray⟩ = Value.string ⟨(textD (decide (a < 0)) k D).toArray⟩ := fun Z h => by rw [h]
  have HFIN := Lib.hid hfin
  clear hfin
  by_cases hs : D.length < k + 1
  · have hs' : (0 : Int) < (k : Int) + 1 - D.length := by omega
    obtain ⟨m, hm⟩ : ∃ m : Nat, (m : Int) = (k : Int) + 1 - D.length := ⟨k + 1 - D.length, by omega⟩
    have hpe : P = List.replicate m 48 ++ D := by rw [hP]; unfold padF; congr 2; omega
    have HPE := Lib.hid hpe
    clear hP hpe
    go_wp2_with fail
    rw [← hm]
    have hrep := Tryd.strings_Repeat ⟨#[48]⟩ m w1 (by omega) (by show 1 * m ≤ _; omega)
    have hrz : Lib.repeatL (⟨#[48]⟩ : ByteArray).data.toList m = List.replicate m 48 := repeat_zero m
    rw [hrz] at hrep
    have hZl : (List.replicate m (48 : UInt8)).length = m := by simp
    have hm9 : m ≤ 7 := by omega
    generalize List.replicate m (48 : UInt8) = Z at *
    refine hrep.mono ?_
    rintro e w2 ⟨rfl, hb2⟩
    have hb3 := below_fresh hb1 hb2 hb1.size
    have hcat : (⟨Z.toArray⟩ ++ ⟨D.toArray⟩ : ByteArray) = ⟨P.toArray⟩ := by rw [ba_append, HPE.out]
    go_upto_region 6 with (fail)
    clear hcat hs hs' hm hb1 hb2 hrep hrz HPE hZl hm9
    obtain ⟨r, hr⟩ : ∃ r, P.length = k + r := ⟨P.length - k, by omega⟩
    have HPP : Hid (P = padF k D) := HP.out
    clear HP
    have HR := Lib.hid hr
    have hr1 : 1 ≤ r := by omega
    by_cases hk0 : k = 0 <;> by_cases hneg : a < 0
    · subst hk0
      go_wp2
      go_ret
      refine ⟨congrArg Ending.returned (Eq.trans ?_ (HFIN.out (45 :: P) ?_)), hb3⟩
      · exact congrArg Value.string (ba_append [45] P)
      · unfold textD pointF; rw [← HPP.out]; simp [hneg]
    · subst hk0
      go_wp2
      go_ret
      refine ⟨congrArg Ending.returned (Eq.trans ?_ (HFIN.out P ?_)), hb3⟩
      · rfl
      · unfold textD pointF; rw [← HPP.out]; simp [hneg]
    · go_wp2_with fail
      go_quiet (fail)
      go_wp2
      go_ret
      refine ⟨congrArg Ending.returned (Eq.trans ?_ (HFIN.out (45 :: (P.take r ++ 46 :: P.drop r)) ?_)), below_drewN hb3 _⟩
      · refine congrArg Value.string ?_
        rw [ba_extract, ba_extract, show (⟨#[46]⟩ : ByteArray) = ⟨[46].toArray⟩ from rfl, show (⟨#[45]⟩ : ByteArray) = ⟨[45].toArray⟩ from rfl, ba_append, ba_append, ba_append, ← HR.out, List.take_length]
        simp
      · unfold textD pointF; rw [← HPP.out, HR.out]; simp [hneg, hk0]
    · go_wp2_with fail
      go_quiet (fail)
      go_wp2
      go_ret
      refine ⟨congrArg Ending.returned (Eq.trans ?_ (HFIN.out (P.take r ++ 46 :: P.drop r) ?_)), below_drewN hb3 _⟩
      · refine congrArg Value.string ?_
        rw [ba_extract, ba_extract, show (⟨#[46]⟩ : ByteArray) = ⟨[46].toArray⟩ from rfl, ba_append, ba_append, ← HR.out, List.take_length]
        simp
      · unfold textD pointF; rw [← HPP.out, HR.out]; simp [hneg, hk0]
  · have hpe : P = D := by rw [hP]; unfold padF; rw [show k + 1 - D.length = 0 by omega]; rfl
    have hs' : ¬ (0 : Int) < (k : Int) + 1 - D.length := by omega
    clear hP hs
    obtain ⟨r, hr⟩ : ∃ r, P.length = k + r := ⟨P.length - k, by omega⟩
    have HPP : Hid (P = padF k D) := HP.out
    rw [← hpe] at hs'
    rw [← hpe]
    clear hpe HP
    have HR := Lib.hid hr
    have hr1 : 1 ≤ r := by omega
    by_cases hk0 : k = 0 <;> by_cases hneg : a < 0
    · subst hk0
      go_wp2
      go_ret
      refine ⟨congrArg Ending.returned (Eq.trans ?_ (HFIN.out (45 :: P) ?_)), hb1⟩
      · exact congrArg Value.string (ba_append [45] P)
      · unfold textD pointF; rw [← HPP.out]; simp [hneg]
    · subst hk0
      go_wp2
      go_ret
      refine ⟨congrArg Ending.returned (Eq.trans ?_ (HFIN.out P ?_)), hb1⟩
      · rfl
      · unfold textD pointF; rw [← HPP.out]; simp [hneg]
    · go_wp2_with fail
      go_quiet (fail)
      go_wp2
      go_ret
      refine ⟨congrArg Ending.returned (Eq.trans ?_ (HFIN.out (45 :: (P.take r ++ 46 :: P.drop r)) ?_)), below_drewN hb1 _⟩
      · refine congrArg Value.string ?_
        rw [ba_extract, ba_extract, show (⟨#[46]⟩ : ByteArray) = ⟨[46].toArray⟩ from rfl, show (⟨#[45]⟩ : ByteArray) = ⟨[45].toArray⟩ from rfl, ba_append, ba_append, ba_append, ← HR.out, List.take_length]
        simp
      · unfold textD pointF; rw [← HPP.out, HR.out]; simp [hneg, hk0]
    · go_wp2_with fail
      go_quiet (fail)
      go_wp2
      go_ret
      refine ⟨congrArg Ending.returned (Eq.trans ?_ (HFIN.out (P.take r ++ 46 :: P.drop r) ?_)), below_drewN hb1 _⟩
      · refine congrArg Value.string ?_
        rw [ba_extract, ba_extract, show (⟨#[46]⟩ : ByteArray) = ⟨[46].toArray⟩ from rfl, ba_append, ba_append, ← HR.out, List.take_length]
        simp
      · unfold textD pointF; rw [← HPP.out, HR.out]; simp [hneg, hk0]
/-- without its point -/
def plainF (k : Nat) (s : List UInt8) : List UInt8 := if 0 < k ∧ k + 1 ≤ s.length then s.take (s.length - k - 1) ++ s.drop (s.length - k) else s

/-- what is told where the text is T -/
def readV (T s : List UInt8) (v : Int) : Value := if T = s then .tuple #[.int .i64 v, .int .i64 0] else .tuple #[.int .i64 0, .int .i64 3]

end Go.Proofs.YtdmjnheohjegdaaDoor
