/- FoataImports: the walk. -/
import Derived.Test.YtnphncemghfkbaaGreatImpB
namespace Go.Proofs.YtnphncemghfkbaaGreat
open Go.RowKit Go.My Go.Maps Go.WideMaps
set_option linter.unusedSimpArgs false
set_option linter.unusedVariables false
attribute [local go_sem ↓] Go.wp_at_zero Go.wp_at_succ

/-- what either of the two tells: the rows, and no error; or an error, and none -/
def OneI (b : List UInt8) (S0 : List (List Od)) (n : Int) : Prop := (n = 0 ∧ rsteps b = some S0 ∧ NormalO S0) ∨ (n = 3 ∧ S0 = [] ∧ ∀ S, rsteps b = some S → ¬ NormalO S)
theorem oneI_ex (b : List UInt8) : ∃ S0 n, OneI b S0 n := by
  by_cases h : ∃ S, rsteps b = some S ∧ NormalO S
  · obtain ⟨S, h1, h2⟩ := h
    exact ⟨S, 0, .inl ⟨rfl, h1, h2⟩⟩
  · exact ⟨[], 3, .inr ⟨rfl, rfl, fun S h1 h2 => h ⟨S, h1, h2⟩⟩⟩
theorem imp_form {w w' : World} {b : List UInt8} {S0 : List (List Od)} {n : Int} {e : Ending} (h0 : OneI b S0 n) (h : ImpRet w b e w') : ∃ A c, e = .returned (.tuple #[.slice A S0.length c, .int .i64 n]) ∧ StS w' A S0 ∧ Fr No w w' := by
  obtain ⟨hf, ⟨A, c, S, h1, h2, rfl, h3, _⟩ | ⟨h1, rfl⟩⟩ := h
  · rcases h0 with ⟨rfl, k1, k2⟩ | ⟨_, _, k⟩
    · rw [h1] at k1
      injection k1 with k1
      subst k1
      exact ⟨A, c, rfl, h3, hf⟩
    · exact absurd h2 (k S h1)
  · rcases h0 with ⟨rfl, k1, k2⟩ | ⟨rfl, rfl, _⟩
    · exact absurd k2 (h1 S0 k1)
    · exact ⟨none, 0, rfl, StS.nil _, hf⟩
theorem oneI_len {b : List UInt8} {S0 : List (List Od)} {n : Int} (h : OneI b S0 n) : S0.length ≤ 1000000 := by
  rcases h with ⟨_, h1, h2⟩ | ⟨_, rfl, _⟩
  · have h3 := (rsteps_only h1).2.1
    have h4 := stepsLen h2.2
    omega
  · simp
set_option maxRecDepth 100000 in
set_option maxHeartbeats 2000000 in
theorem foataImports_walk (B : Option Addr) (d : Nat) (lb : List UInt8) (w : World) (rb : Rd w (Lt w.heap.size) 1 B lb.length (bs lb)) (cb : lb.length ≤ d) (mb : d ≤ maxLen) :
    Calls Tryz.prog 4 #[.slice B lb.length d] w fun e w' => e = .returned (.bool true) ∧ Below w.heap.size w w' := by
  have HLV : Hid (∀ W, _) := fun W => lives11 W
  obtain ⟨b, hbe⟩ : ∃ b, lb.take 3000 = b := ⟨_, rfl⟩
  have hbl : b.length = min lb.length 3000 := by rw [← hbe, List.length_take]; omega
  have HRB : Hid (∀ W, Fr No w W → Rd W (Lt w.heap.size) 1 B b.length (bs b)) := fun W hW => by
    have h1 := rb.take (k := b.length) (by omega)
    have h2 : (bs lb).take (b.length * 1) = bs b := by
      rw [← hbe, bs_take, Nat.mul_one, List.take_eq_take_iff, bs_length, List.length_take]
      omega
    rw [h2] at h1
    exact h1.fr (by omega) hW (fun _ _ _ h => h)
  have hmn : (min (lb.length : Int) 3000).toNat = b.length := by omega
  have hmx : 0 ≤ min (lb.length : Int) 3000 ∧ min (lb.length : Int) 3000 ≤ (d : Int) := ⟨by omega, by omega⟩
  have hb3 : b.length ≤ 3000 := by omega
  have hbd : b.length ≤ d := by omega
  have HMB : Hid (d ≤ maxLen) := mb
  clear rb cb mb hbe hbl
  generalize lb.length = nb at *
  obtain ⟨S0, n, h0⟩ := oneI_ex b
  have HI1 : Hid (∀ W, Fr No w W → Calls Tryz.prog 21 #[.slice B b.length d] W fun e w' => ∃ A c, e = .returned (.tuple #[.slice A S0.length c, .int .i64 n]) ∧ StS w' A S0 ∧ Fr No W w') := fun W hW => (import_any W _ B d b (HRB.out W hW) (by omega)).mono fun e w' h => imp_form h0 h
  have HI2 : Hid (∀ W, Fr No w W → Calls Tryz.prog 22 #[.slice B b.length d] W fun e w' => ∃ A c, e = .returned (.tuple #[.slice A S0.length c, .int .i64 n]) ∧ StS w' A S0 ∧ Fr No W w') := fun W hW => (refimport_any W _ B d b (HRB.out W hW) hbd HMB.out hb3).mono fun e w' h => imp_form h0 h
  have HSM : Hid (∀ W A c B d, StS W A S0 → StS W B S0 → Calls Tryz.prog 15 #[.slice A S0.length c, .slice B S0.length d] W fun e w' => e = .returned (.bool true) ∧ Fr No W w') := fun W A c B d h1 h2 => same11_eq W A B c d S0 h1 h2 (oneI_len h0)
  have hnn : (n == n) = true := beq_self_eq_true _
  clear h0
  go_enter Tryz.func4, Tryz.ntmps4
  go_wp2_with fail
  (with_reducible refine (HLV.out _).mono ?_)
  rintro e w1 ⟨rfl, hf1⟩
  have HF1 := Lib.hid hf1
  clear hf1 HLV
  have HC1 := Lib.hid (HI1.out _ HF1.out)
  go_wp2_with fail
  (with_reducible refine HC1.out.mono ?_)
  rintro e w2 ⟨A2, c2, rfl, hs2, hf2⟩
  have HS2 := Lib.hid hs2
  have HF2 := Lib.hid (HF1.out.trans hf2)
  clear hs2 hf2 HC1
  have HC2 := Lib.hid (HI2.out _ HF2.out)
  go_wp2_with fail
  (with_reducible refine HC2.out.mono ?_)
  rintro e w3 ⟨A3, c3, rfl, hs3, hf3⟩
  have HC3 := Lib.hid (HSM.out _ _ c2 _ c3 (HS2.out.no hf3) hs3)
  have HF3 := Lib.hid (HF2.out.trans hf3)
  clear hs3 hf3 HC2
  go_wp2_with fail
  (with_reducible refine HC3.out.mono ?_)
  rintro e w4 ⟨rfl, hf4⟩
  have HF4 := Lib.hid (HF3.out.trans hf4)
  clear hf4
  go_wp2
  go_ret
  exact ⟨rfl, HF4.out.belowNo⟩
end Go.Proofs.YtnphncemghfkbaaGreat
