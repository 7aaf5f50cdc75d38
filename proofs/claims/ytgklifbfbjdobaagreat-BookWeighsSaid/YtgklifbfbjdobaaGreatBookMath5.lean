/- What is closed: what a book tells then, in lists. -/
import Derived.Test.YtgklifbfbjdobaaGreatBookMath4
namespace Go.Proofs.YtgklifbfbjdobaaGreat
open Go.RowKit Go.My Go.Maps
set_option linter.unusedSimpArgs false
set_option linter.unusedVariables false

theorem openE_ne (S : List Ac) (nm : List UInt8) (x : Int) : openE S nm x ≠ 10 := by
  unfold openE
  split
  · decide
  · split
    · decide
    · split <;> decide
theorem giveE_ne (a : Ac) (x : Int) : giveE a x ≠ 10 := by
  unfold giveE
  split
  · split <;> decide
  · decide
theorem asideE_ne (a : Ac) (x : Int) : asideE a x ≠ 10 := by
  unfold asideE
  split
  · split
    · decide
    · split <;> decide
  · decide
theorem asdE_ne (S : List Ac) (nm : List UInt8) (x : Int) : asdE S nm x ≠ 10 := by
  unfold asdE actE
  split
  · decide
  · exact asideE_ne _ _
theorem legE_ne (S : List Ac) (g : Lg) : legE S g ≠ 10 := by
  unfold legE
  split
  · decide
  · split
    · decide
    · unfold actE
      split
      · decide
      · exact giveE_ne _ _
theorem legsE_ne : ∀ (L : List Lg) (S : List Ac), legsE S L ≠ 10
  | [], S => by unfold legsE; decide
  | g :: r, S => by
    unfold legsE
    split
    · exact legsE_ne r _
    · exact legE_ne S g
theorem checkE_ne (S : List Ac) (L : List Lg) : checkE S L ≠ 10 := by
  unfold checkE
  split
  · decide
  · split
    · exact legsE_ne L S
    · decide
theorem putE_ne (S : List Ac) (H : List Hd) (n : Int) (a : List UInt8) (x : Int) : putE S H n a x ≠ 10 := by
  unfold putE
  split
  · decide
  · split
    · decide
    · split
      · decide
      · exact asdE_ne _ _ _
theorem takeE_ne (S : List Ac) (H : List Hd) (a b : ByteArray) (n x : Int) : takeE S H a n b x ≠ 10 := by
  unfold takeE
  split
  · decide
  · split
    · decide
    · split
      · exact checkE_ne _ _
      · exact asdE_ne _ _ _
theorem freeE_ne (S : List Ac) (H : List Hd) (a : List UInt8) (n : Int) : freeE S H a n ≠ 10 := by
  unfold freeE
  split
  · decide
  · exact asdE_ne _ _ _
theorem about_ne (S : List Ac) (nm : List UInt8) (e : Int) (h : e ≠ 10) : (aboutR S nm e).err ≠ 10 := by
  unfold aboutR
  split
  · simp only
    split <;> decide
  · exact h
theorem numR_err (r : Rp) (n : Int) : (numR r n).err = r.err := by unfold numR; split <;> rfl
/-- is it of a period that is closed? -/
def oldB (b : Bk) (o : Od) : Prop := (o.kd = 2 ∨ o.kd = 4 ∨ o.kd = 6) ∧ o.per ≤ b.cl
theorem closed_case (b : Bk) (o : Od) : ∃ R B, doR b o = R ∧ doB b o = B ∧ (oldB b o → (R = errR 10 ∨ R = errR 1) ∧ B = b) ∧ (¬ oldB b o → R.err ≠ 10) := by
  refine ⟨_, _, rfl, rfl, fun ho => ?_, fun ho => ?_⟩
  · obtain ⟨hk, hp⟩ := ho
    unfold doR doB
    cases rightO o with
    | false => exact ⟨.inr rfl, rfl⟩
    | true =>
      rw [if_pos rfl, if_pos rfl]
      unfold effR effB
      rcases hk with hk | hk | hk
      · rw [if_neg (by omega), if_pos hk, if_pos hp, if_neg (by omega), if_pos hk, if_pos hp]
        exact ⟨.inl rfl, rfl⟩
      · rw [if_neg (by omega), if_neg (by omega), if_neg (by omega), if_pos hk, if_pos hp, if_neg (by omega), if_neg (by omega), if_neg (by omega), if_pos hk, if_pos hp]
        exact ⟨.inl rfl, rfl⟩
      · rw [if_neg (by omega), if_neg (by omega), if_neg (by omega), if_neg (by omega), if_neg (by omega), if_pos hk, if_pos hp, if_neg (by omega), if_neg (by omega), if_neg (by omega), if_neg (by omega), if_neg (by omega), if_pos hk, if_pos hp]
        exact ⟨.inl rfl, rfl⟩
  · unfold doR
    split
    · unfold effR
      by_cases k1 : o.kd = 1
      · rw [if_pos k1]; exact about_ne _ _ _ (openE_ne _ _ _)
      rw [if_neg k1]
      by_cases k2 : o.kd = 2
      · rw [if_pos k2, if_neg (fun h => ho ⟨.inl k2, h⟩)]
        exact checkE_ne _ _
      rw [if_neg k2]
      by_cases k3 : o.kd = 3
      · rw [if_pos k3, numR_err]; exact about_ne _ _ _ (putE_ne _ _ _ _ _)
      rw [if_neg k3]
      by_cases k4 : o.kd = 4
      · rw [if_pos k4, if_neg (fun h => ho ⟨.inr (.inl k4), h⟩)]
        exact about_ne _ _ _ (takeE_ne _ _ _ _ _ _)
      rw [if_neg k4]
      by_cases k5 : o.kd = 5
      · rw [if_pos k5]; exact about_ne _ _ _ (freeE_ne _ _ _ _)
      rw [if_neg k5]
      by_cases k6 : o.kd = 6
      · rw [if_pos k6, if_neg (fun h => ho ⟨.inr (.inr k6), h⟩)]
        show (0 : Int) ≠ 10
        decide
      rw [if_neg k6]
      exact about_ne _ _ _ (by decide)
    · show (1 : Int) ≠ 10
      decide
/-- an order that closes a period -/
def closeOd (n : Int) : Od := ⟨0, 1, 6, ⟨#[]⟩, ⟨#[]⟩, 0, [], n, 0, ⟨#[]⟩⟩
theorem close_case (b : Bk) (n : Int) (hn : 1 ≤ n ∧ n ≤ 1000) : ∃ B, doB b (closeOd n) = B ∧ n ≤ B.cl ∧ (doR b (closeOd n) = ⟨10, 0, 0, 0⟩ ∨ doR b (closeOd n) = ⟨0, 0, 0, n⟩) := by
  have hr : rightO (closeOd n) = true := by
    unfold rightO idB acctB peerB sumB legsB perB holdB noteB closeOd Od.an Od.pn
    simp [hn.1, hn.2]
  refine ⟨_, rfl, ?_, ?_⟩
  · unfold doB
    rw [if_pos hr]
    unfold effB
    show n ≤ (if n ≤ b.cl then b else ⟨b.S, b.H, n⟩ : Bk).cl
    split
    · assumption
    · exact Int.le_refl n
  · unfold doR
    rw [if_pos hr]
    unfold effR
    show (if n ≤ b.cl then errR 10 else ⟨0, 0, 0, n⟩ : Rp) = _ ∨ (if n ≤ b.cl then errR 10 else ⟨0, 0, 0, n⟩ : Rp) = _
    split
    · exact .inl rfl
    · exact .inr rfl
theorem closeOd_ok (n : Int) (hn : 1 ≤ n ∧ n ≤ 1000) : (closeOd n).ok := by
  unfold closeOd Od.ok In64
  refine ⟨by simp, by simp, by simp, ?_, ?_, by simp, by simp only; omega, by simp, ?_⟩ <;> (show (⟨#[]⟩ : ByteArray).size ≤ maxLen; decide)
end Go.Proofs.YtgklifbfbjdobaaGreat
