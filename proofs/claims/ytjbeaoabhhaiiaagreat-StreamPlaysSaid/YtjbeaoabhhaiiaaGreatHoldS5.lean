/- Steps on holds, done; scripts that come in. What the laws on holds call first. -/
import Derived.Test.YtjbeaoabhhaiiaaGreatHoldS4
import Derived.Test.YtjbeaoabhhaiiaaGreatOpen
namespace Go.Proofs.YtjbeaoabhhaiiaaGreat
open Go.RowKit Go.My Go.Maps
set_option linter.unusedSimpArgs false
set_option linter.unusedVariables false
attribute [local go_sem ↓] Go.wp_at_zero Go.wp_at_succ

def StW (p m ph mh : Nat) (S : List Ac) (H : List Hd) (w : World) (W : World) : Prop := ChS W p m S ∧ HdS W ph mh H ∧ Fr (At2 m mh) w W
theorem no2 {m k : Nat} {a b : World} (h : Fr No a b) : Fr (At2 m k) a b := h.mono fun _ _ h => False.elim h
section
open Go.ChangeShapes Go.WideShapes
variable {H : Type} {enc : TypeId × Value → H} {w : World} {base : Nat} {spare : Nat → Bool} {held : Bool}
end
end Go.Proofs.YtjbeaoabhhaiiaaGreat

namespace Go.Proofs.YtjbeaoabhhaiiaaGreat
open Go.RowKit Go.My Go.Maps
set_option linter.unusedSimpArgs false
set_option linter.unusedVariables false
attribute [local go_sem ↓] Go.wp_at_zero Go.wp_at_succ

def aX : Ac := ⟨[97], 30, 20, 0⟩
def S1L : List Ac := [aX, aB 10, aC]
def H1L : List Hd := [⟨1, [97], 20⟩]
theorem v1 : putE abcS [] 1 [97] 20 = 0 ∧ putSS abcS [] 1 [97] 20 = S1L ∧ putHH abcS [] 1 [97] 20 = H1L := by
  have h0 : asideE (aA 30) 20 = 0 := by unfold asideE freeB In64 aA; simp
  have h1 : getA abcS [97] = some (aA 30) := rfl
  have h2 : asdE abcS [97] 20 = 0 := by unfold asdE actE; rw [h1]; exact h0
  have h3 : putE abcS [] 1 [97] 20 = 0 := by
    unfold putE
    rw [if_neg (by omega), if_neg (by decide), if_neg (by simp [ofH])]
    exact h2
  refine ⟨h3, ?_, ?_⟩
  · unfold putSS asdS actS
    rw [if_pos h3, h1]
    simp only
    rw [if_pos h0]
    unfold asideA
    rw [if_pos h0]
    rfl
  · unfold putHH
    rw [if_pos h3]
    rfl
theorem v2 : putE S1L H1L 2 [97] 11 = 9 := by
  have h0 : asideE aX 11 = 9 := by unfold asideE freeB In64 aX; simp
  have h1 : getA S1L [97] = some aX := rfl
  unfold putE
  rw [if_neg (by omega), if_neg (by decide), if_neg (by decide)]
  unfold asdE actE
  rw [h1]
  exact h0
theorem v2' : putSS S1L H1L 2 [97] 11 = S1L ∧ putHH S1L H1L 2 [97] 11 = H1L := by
  unfold putSS putHH
  rw [v2]
  exact ⟨rfl, rfl⟩
theorem v3 : takeE S1L H1L ⟨#[97]⟩ 1 ⟨#[99]⟩ 4 = 0 ∧ (∃ T, takeSS S1L H1L ⟨#[97]⟩ 1 ⟨#[99]⟩ 4 = T ∧ getV T [97] = ⟨[97], 26, 0, 0⟩ ∧ (getA T [97]).isSome = true) ∧ takeHH S1L H1L ⟨#[97]⟩ 1 ⟨#[99]⟩ 4 = [] := by
  have g0 : getH H1L (⟨#[97]⟩ : ByteArray).data.toList 1 = some ⟨1, [97], 20⟩ := by decide
  have h0 : asideE aX (-20) = 0 := by unfold asideE freeB In64 aX; simp
  have h1 : getA S1L (⟨#[97]⟩ : ByteArray).data.toList = some aX := rfl
  have h2 : asdE S1L (⟨#[97]⟩ : ByteArray).data.toList (-20) = 0 := by unfold asdE actE; rw [h1]; exact h0
  have h3 : asdS S1L (⟨#[97]⟩ : ByteArray).data.toList (-20) = abcS := by
    unfold asdS actS
    rw [h1]
    simp only
    rw [if_pos h0]
    unfold asideA
    rw [if_pos h0]
    rfl
  have e1 : giveE (aA 30) 4 = 0 := by unfold giveE freeB In64 aA; simp
  have e2 : giveE aC (-4) = 0 := by unfold giveE freeB In64 aC; simp
  have k1 : legE abcS ⟨⟨#[97]⟩, -4⟩ = 0 := by
    unfold legE actE
    rw [if_neg (by decide), if_neg (by decide)]
    exact e1
  have k2 : legS abcS ⟨⟨#[97]⟩, -4⟩ = [aA 26, aB 10, aC] := by
    unfold legS
    rw [if_pos k1]
    unfold actS
    show (match getA abcS [97] with | none => abcS | some a => if giveE a 4 = 0 then putA (giveA a 4) abcS else abcS) = _
    rw [show getA abcS [97] = some (aA 30) from rfl]
    simp only
    rw [if_pos e1]
    unfold giveA
    rw [if_pos e1]
    rfl
  have k3 : legE [aA 26, aB 10, aC] ⟨⟨#[99]⟩, 4⟩ = 0 := by
    unfold legE actE
    rw [if_neg (by decide), if_neg (by decide)]
    exact e2
  have k4 : legsE abcS (legsT ⟨#[97]⟩ ⟨#[99]⟩ 4) = 0 := by
    unfold legsT
    rw [legsE_cons, if_pos k1, k2, legsE_cons, if_pos k3]
    rfl
  have k5 : checkE abcS (legsT ⟨#[97]⟩ ⟨#[99]⟩ 4) = 0 := by
    unfold checkE
    rw [if_neg (by decide), if_pos (by decide)]
    exact k4
  have k6 : makeS abcS (legsT ⟨#[97]⟩ ⟨#[99]⟩ 4) = legS [aA 26, aB 10, aC] ⟨⟨#[99]⟩, 4⟩ := by
    unfold makeS
    rw [if_pos k5]
    unfold legsT
    rw [legsS_cons, if_pos k1, k2, legsS_cons, if_pos k3]
    rfl
  have k7 : takeE S1L H1L ⟨#[97]⟩ 1 ⟨#[99]⟩ 4 = 0 := by
    unfold takeE
    rw [g0]
    simp only
    rw [if_neg (by omega), if_pos h2, h3]
    exact k5
  refine ⟨k7, ⟨_, rfl, ?_⟩, ?_⟩
  · unfold takeSS
    rw [if_pos k7, g0]
    show getV (makeS (asdS S1L (⟨#[97]⟩ : ByteArray).data.toList (-20)) _) [97] = _ ∧ _
    rw [h3, k6]
    have : getA (legS [aA 26, aB 10, aC] ⟨⟨#[99]⟩, 4⟩) [97] = some ⟨[97], 26, 0, 0⟩ := by
      rw [leg_other _ _ [97] (by decide)]
      rfl
    unfold getV
    show (getA (legS [aA 26, aB 10, aC] ⟨⟨#[99]⟩, 4⟩) [97]).getD noA = _ ∧ (getA (legS [aA 26, aB 10, aC] ⟨⟨#[99]⟩, 4⟩) [97]).isSome = true
    rw [this]
    exact ⟨rfl, rfl⟩
  · unfold takeHH
    rw [if_pos k7]
    decide

theorem st1 : St S1L H1L := by
  have h := stB.put 1 20 [97] (by omega)
  rw [v1.2.1, v1.2.2] at h
  exact h
end Go.Proofs.YtjbeaoabhhaiiaaGreat
