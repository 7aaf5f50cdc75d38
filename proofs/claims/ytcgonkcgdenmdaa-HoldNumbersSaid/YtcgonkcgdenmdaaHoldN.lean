/- HoldNumbers: in lists. -/
import Derived.Test.YtcgonkcgdenmdaaHoldS5
namespace Go.Proofs.Ytcgonkcgdenmdaa
open Go.RowKit Go.My Go.Maps
set_option linter.unusedSimpArgs false
set_option linter.unusedVariables false
set_option linter.unusedSectionVars false

def nX (a : Int) : Ac := ⟨[97], 30, a, 0⟩
def nY (b : Int) : Ac := ⟨[98], 10, b, 5⟩
def nS1 (a : Int) : List Ac := [nX a, aB 10, aC]
def nS2 (a b : Int) : List Ac := [nX a, nY b, aC]
def nH1 (n a : Int) : List Hd := [⟨n, [97], a⟩]
def nH2 (n a b : Int) : List Hd := [⟨n, [97], a⟩, ⟨n, [98], b⟩]
def nH3 (n b : Int) : List Hd := [⟨n, [98], b⟩]
section
variable {n a b : Int} (hn : 1 ≤ n ∧ n ≤ 9999) (ha : 1 ≤ a ∧ a ≤ 30) (hb : 1 ≤ b ∧ b ≤ 10)
include hn ha
theorem n1 : putE abcS [] n [97] a = 0 ∧ putSS abcS [] n [97] a = nS1 a ∧ putHH abcS [] n [97] a = nH1 n a := by
  have h0 : asideE (aA 30) a = 0 := by
    unfold asideE freeB In64 aA
    simp only
    rw [if_pos (by omega), if_neg (by simp; omega), if_neg (by omega)]
  have h1 : getA abcS [97] = some (aA 30) := rfl
  have h2 : asdE abcS [97] a = 0 := by unfold asdE actE; rw [h1]; exact h0
  have h3 : putE abcS [] n [97] a = 0 := by
    unfold putE
    rw [if_neg (by omega), if_neg (by simp [getH]), if_neg (by simp [ofH])]
    exact h2
  refine ⟨h3, ?_, ?_⟩
  · unfold putSS asdS actS
    rw [if_pos h3, h1]
    simp only
    rw [if_pos h0]
    have e : asideA (aA 30) a = nX a := by unfold asideA; rw [if_pos h0]; unfold aA nX; simp
    rw [e]
    rfl
  · unfold putHH
    rw [if_pos h3]
    rfl
include hb
theorem n2 : putE (nS1 a) (nH1 n a) n [98] b = 0 ∧ putSS (nS1 a) (nH1 n a) n [98] b = nS2 a b ∧ putHH (nS1 a) (nH1 n a) n [98] b = nH2 n a b := by
  have h0 : asideE (aB 10) b = 0 := by
    unfold asideE freeB In64 aB
    simp only
    rw [if_pos (by omega), if_neg (by simp; omega), if_neg (by omega)]
  have h1 : getA (nS1 a) [98] = some (aB 10) := rfl
  have h2 : asdE (nS1 a) [98] b = 0 := by unfold asdE actE; rw [h1]; exact h0
  have h3 : putE (nS1 a) (nH1 n a) n [98] b = 0 := by
    unfold putE
    rw [if_neg (by omega), if_neg (by simp [getH, nH1, Hd.at]), if_neg (by simp [ofH, nH1])]
    exact h2
  refine ⟨h3, ?_, ?_⟩
  · unfold putSS asdS actS
    rw [if_pos h3, h1]
    simp only
    rw [if_pos h0]
    have e : asideA (aB 10) b = nY b := by unfold asideA; rw [if_pos h0]; unfold aB nY; simp
    rw [e]
    rfl
  · unfold putHH
    rw [if_pos h3]
    unfold nH1
    simp only [insH]
    rw [if_neg (by rw [hB_iff]; simp; decide)]
    rfl
theorem n3 : putE (nS2 a b) (nH2 n a b) n [97] 1 = 7 := by
  unfold putE
  rw [if_neg (by omega), if_pos (by simp [getH, nH2, Hd.at])]
theorem nOfB : ofH (nH2 n a b) [98] = nH3 n b ∧ ofH (nH3 n b) [98] = nH3 n b ∧ ofH (nH3 n b) [97] = [] := by
  refine ⟨?_, ?_, ?_⟩ <;> simp [ofH, nH2, nH3]
theorem n4 : takeE (nS2 a b) (nH2 n a b) ⟨#[97]⟩ n ⟨#[99]⟩ a = 0 ∧ takeHH (nS2 a b) (nH2 n a b) ⟨#[97]⟩ n ⟨#[99]⟩ a = nH3 n b ∧ getA (takeSS (nS2 a b) (nH2 n a b) ⟨#[97]⟩ n ⟨#[99]⟩ a) [98] = some (nY b) := by
  have g0 : getH (nH2 n a b) (⟨#[97]⟩ : ByteArray).data.toList n = some ⟨n, [97], a⟩ := by simp [getH, nH2, Hd.at]
  have h0 : asideE (nX a) (-a) = 0 := by
    unfold asideE freeB In64 nX
    simp only
    rw [if_pos (by omega), if_neg (by omega), if_neg (by omega)]
  have h1 : getA (nS2 a b) (⟨#[97]⟩ : ByteArray).data.toList = some (nX a) := rfl
  have h2 : asdE (nS2 a b) (⟨#[97]⟩ : ByteArray).data.toList (-a) = 0 := by unfold asdE actE; rw [h1]; exact h0
  have h3 : asdS (nS2 a b) (⟨#[97]⟩ : ByteArray).data.toList (-a) = [aA 30, nY b, aC] := by
    unfold asdS actS
    rw [h1]
    simp only
    rw [if_pos h0]
    have e : asideA (nX a) (-a) = aA 30 := by unfold asideA; rw [if_pos h0]; unfold aA nX; simp; omega
    rw [e]
    rfl
  have e1 : giveE (aA 30) a = 0 := by
    unfold giveE
    rw [if_pos (show In64 _ by unfold In64 aA; simp only; omega), if_neg (by unfold freeB aA; simp; omega)]
  have e2 : giveE aC (-a) = 0 := by
    unfold giveE
    rw [if_pos (show In64 _ by unfold In64 aC; simp only; omega), if_neg (by omega)]
  have k1 : legE [aA 30, nY b, aC] ⟨⟨#[97]⟩, -a⟩ = 0 := by
    unfold legE actE
    rw [show (⟨⟨#[97]⟩, -a⟩ : Lg).nm = [97] from rfl, if_neg (show ¬ (getA [aA 30, nY b, aC] [97]).isSome = false by rw [show getA [aA 30, nY b, aC] [97] = some (aA 30) from rfl]; decide), if_neg (by simp only; omega)]
    show giveE (aA 30) (- -a) = 0
    rw [Int.neg_neg]
    exact e1
  have k2 : legS [aA 30, nY b, aC] ⟨⟨#[97]⟩, -a⟩ = [aA (30 - a), nY b, aC] := by
    unfold legS
    rw [if_pos k1]
    unfold actS
    show (match getA [aA 30, nY b, aC] [97] with | none => [aA 30, nY b, aC] | some c => if giveE c (- -a) = 0 then putA (giveA c (- -a)) [aA 30, nY b, aC] else [aA 30, nY b, aC]) = _
    rw [show getA [aA 30, nY b, aC] [97] = some (aA 30) from rfl, Int.neg_neg]
    simp only
    rw [if_pos e1]
    unfold giveA
    rw [if_pos e1]
    rfl
  have k3 : legE [aA (30 - a), nY b, aC] ⟨⟨#[99]⟩, a⟩ = 0 := by
    unfold legE actE
    rw [show (⟨⟨#[99]⟩, a⟩ : Lg).nm = [99] from rfl, if_neg (show ¬ (getA [aA (30 - a), nY b, aC] [99]).isSome = false by rw [show getA [aA (30 - a), nY b, aC] [99] = some aC from rfl]; decide), if_neg (by simp only; omega)]
    exact e2
  have k5 : checkE [aA 30, nY b, aC] (legsT ⟨#[97]⟩ ⟨#[99]⟩ a) = 0 := by
    unfold checkE
    rw [if_neg (by
      unfold rightB legsT
      simp only [List.all_cons, List.all_nil, List.map_cons, List.map_nil, Lg.nm]
      have q1 : nameB [97] = true := by decide
      have q2 : nameB [99] = true := by decide
      simp [q1, q2]
      omega), if_pos (by unfold sums legsT; simp [total_cons, total_nil]; omega)]
    unfold legsT
    rw [legsE_cons, if_pos k1, k2, legsE_cons, if_pos k3]
    rfl
  have k6 : makeS [aA 30, nY b, aC] (legsT ⟨#[97]⟩ ⟨#[99]⟩ a) = legS [aA (30 - a), nY b, aC] ⟨⟨#[99]⟩, a⟩ := by
    unfold makeS
    rw [if_pos k5]
    unfold legsT
    rw [legsS_cons, if_pos k1, k2, legsS_cons, if_pos k3]
    rfl
  have k7 : takeE (nS2 a b) (nH2 n a b) ⟨#[97]⟩ n ⟨#[99]⟩ a = 0 := by
    unfold takeE
    rw [g0]
    simp only
    rw [if_neg (by omega), if_pos h2, h3]
    exact k5
  refine ⟨k7, ?_, ?_⟩
  · unfold takeHH
    rw [if_pos k7]
    simp [delH, nH2, nH3, Hd.at]
  · unfold takeSS
    rw [if_pos k7, g0]
    show getA (makeS (asdS (nS2 a b) (⟨#[97]⟩ : ByteArray).data.toList (-a)) _) [98] = _
    rw [h3, k6, leg_other _ ⟨⟨#[99]⟩, a⟩ [98] (show ([98] : List UInt8) ≠ [99] by decide)]
    rfl
theorem n5 (T : List Ac) (hT : getA T [98] = some (nY b)) : freeE T (nH3 n b) [97] n = 6 ∧ freeE T (nH3 n b) [98] n = 0 := by
  constructor
  · unfold freeE
    rw [show getH (nH3 n b) [97] n = none by simp [getH, nH3, Hd.at]]
  · unfold freeE
    rw [show getH (nH3 n b) [98] n = some ⟨n, [98], b⟩ by simp [getH, nH3, Hd.at]]
    unfold asdE actE
    simp only
    rw [hT]
    simp only
    unfold asideE freeB In64 nY
    simp only
    rw [if_pos (by omega), if_neg (by omega), if_neg (by omega)]
end
end Go.Proofs.Ytcgonkcgdenmdaa
