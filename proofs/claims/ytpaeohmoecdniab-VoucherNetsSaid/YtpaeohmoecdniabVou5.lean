/- What the laws on vouchers call first: lives, few. -/
import Derived.Test.YtpaeohmoecdniabVou4
namespace Go.Proofs.Ytpaeohmoecdniab
open Go.RowKit Go.My Go.Maps
set_option linter.unusedSimpArgs false
set_option linter.unusedVariables false
attribute [local go_sem ↓] Go.wp_at_zero Go.wp_at_succ

theorem few_any (A : Option Addr) (n c : Nat) (w : World) (h1 : n ≤ c) (h2 : c ≤ maxLen) :
    Calls Try.prog 11 #[.slice A n c] w fun e w' => e = .returned (.slice A (min n 8) c) ∧ w = w' := by
  unfold maxLen at h2
  go_enter Try.func11, Try.ntmps11
  go_wp2
  go_ret
  exact ⟨by rw [show min n 8 = (min (n : Int) 8).toNat by omega]; rfl, rfl⟩

def vA : Lg := ⟨⟨#[97]⟩, -5⟩
def vL1 : List Lg := [⟨⟨#[97]⟩, -5⟩, ⟨⟨#[98]⟩, 3⟩, ⟨⟨#[99]⟩, 2⟩]
def vL2 : List Lg := [⟨⟨#[97]⟩, -5⟩, ⟨⟨#[98]⟩, 4⟩]
def vS : List Ac := [⟨[97], 0, 0, 9⟩, ⟨[98], 0, 0, 0⟩, ⟨[99], 0, 0, 0⟩]
def vT : List Ac := [⟨[97], -5, 0, 9⟩, ⟨[98], 3, 0, 0⟩, ⟨[99], 2, 0, 0⟩]
theorem vo1 : openE [] [97] 9 = 0 ∧ openS [] [97] 9 = [⟨[97], 0, 0, 9⟩] := by
  have h : openE [] [97] 9 = 0 := by decide
  exact ⟨h, by unfold openS; rw [h]; rfl⟩
theorem vo2 : openE [⟨[97], 0, 0, 9⟩] [98] 0 = 0 ∧ openS [⟨[97], 0, 0, 9⟩] [98] 0 = [⟨[97], 0, 0, 9⟩, ⟨[98], 0, 0, 0⟩] := by
  have h : openE [⟨[97], 0, 0, 9⟩] [98] 0 = 0 := by decide
  exact ⟨h, by unfold openS; rw [h]; rfl⟩
theorem vo3 : openE [⟨[97], 0, 0, 9⟩, ⟨[98], 0, 0, 0⟩] [99] 0 = 0 ∧ openS [⟨[97], 0, 0, 9⟩, ⟨[98], 0, 0, 0⟩] [99] 0 = vS := by
  have h : openE [⟨[97], 0, 0, 9⟩, ⟨[98], 0, 0, 0⟩] [99] 0 = 0 := by decide
  exact ⟨h, by unfold openS; rw [h]; rfl⟩
theorem vm1 : checkE vS vL1 = 0 := by decide +kernel
theorem vm2 : makeS vS vL1 = vT := by decide +kernel
theorem vm3 : checkE vT vL2 = 8 := by decide +kernel

def vCells1 : Array Value := #[.string ⟨#[97]⟩, .int .i64 (-5), .string ⟨#[98]⟩, .int .i64 3, .string ⟨#[99]⟩, .int .i64 2]
def vCells2 : Array Value := #[.string ⟨#[97]⟩, .int .i64 (-5), .string ⟨#[98]⟩, .int .i64 4]
theorem vE1 : Each RdLg 2 vCells1.toList vL1 := by
  refine ⟨rfl, fun i x hx => ?_⟩
  match i, hx with
  | 0, hx => injection hx with hx; subst hx; exact ⟨rfl, by decide, by unfold In64; decide⟩
  | 1, hx => injection hx with hx; subst hx; exact ⟨rfl, by decide, by unfold In64; decide⟩
  | 2, hx => injection hx with hx; subst hx; exact ⟨rfl, by decide, by unfold In64; decide⟩
  | n + 3, hx => simp [vL1] at hx
theorem vE2 : Each RdLg 2 vCells2.toList vL2 := by
  refine ⟨rfl, fun i x hx => ?_⟩
  match i, hx with
  | 0, hx => injection hx with hx; subst hx; exact ⟨rfl, by decide, by unfold In64; decide⟩
  | 1, hx => injection hx with hx; subst hx; exact ⟨rfl, by decide, by unfold In64; decide⟩
  | n + 2, hx => simp [vL2] at hx
theorem vInv : Inv vS := by
  rw [← vo3.2, ← vo2.2, ← vo1.2]
  exact inv_open (inv_open (inv_open Inv.nil _ _ (by unfold In64; decide)) _ _ (by unfold In64; decide)) _ _ (by unfold In64; decide)
theorem vInvT : Inv vT := by rw [← vm2]; exact inv_make vInv vL1

set_option maxRecDepth 100000 in
set_option maxHeartbeats 4000000 in
theorem livesV (w : World) : Calls Try.prog 9 #[] w (RetTrue w) := by
  have HO1 : Hid (∀ p m W, ChS W p m [] → Calls Try.prog 26 #[.pointer (some ⟨p, 0, none⟩), .string ⟨#[97]⟩, .int .i64 9] W fun e w' => e = .returned (.int .i64 0) ∧ ChS w' p m [⟨[97], 0, 0, 9⟩] ∧ Fr (At1 m) W w') := fun p m W hW => by
    have h := open_any p m [] ⟨#[97]⟩ 9 W hW (by decide) (by unfold In64; omega) (by decide)
    rw [show (⟨#[97]⟩ : ByteArray).data.toList = [97] from rfl, vo1.1, vo1.2] at h
    exact h
  have HO2 : Hid (∀ p m W, ChS W p m [⟨[97], 0, 0, 9⟩] → Calls Try.prog 26 #[.pointer (some ⟨p, 0, none⟩), .string ⟨#[98]⟩, .int .i64 0] W fun e w' => e = .returned (.int .i64 0) ∧ ChS w' p m [⟨[97], 0, 0, 9⟩, ⟨[98], 0, 0, 0⟩] ∧ Fr (At1 m) W w') := fun p m W hW => by
    have h := open_any p m [⟨[97], 0, 0, 9⟩] ⟨#[98]⟩ 0 W hW (by decide) (by unfold In64; omega) (by decide)
    rw [show (⟨#[98]⟩ : ByteArray).data.toList = [98] from rfl, vo2.1, vo2.2] at h
    exact h
  have HO3 : Hid (∀ p m W, ChS W p m [⟨[97], 0, 0, 9⟩, ⟨[98], 0, 0, 0⟩] → Calls Try.prog 26 #[.pointer (some ⟨p, 0, none⟩), .string ⟨#[99]⟩, .int .i64 0] W fun e w' => e = .returned (.int .i64 0) ∧ ChS w' p m vS ∧ Fr (At1 m) W w') := fun p m W hW => by
    have h := open_any p m [⟨[97], 0, 0, 9⟩, ⟨[98], 0, 0, 0⟩] ⟨#[99]⟩ 0 W hW (by decide) (by unfold In64; omega) (by decide)
    rw [show (⟨#[99]⟩ : ByteArray).data.toList = [99] from rfl, vo3.1, vo3.2] at h
    exact h
  have HMK : Hid (∀ p m W b, ChS W p m vS → Blk W b 47 vCells1 → Calls Try.prog 16 #[.pointer (some ⟨p, 0, none⟩), .slice (some ⟨b, 0, none⟩) 3 3] W fun e w' => e = .returned (.int .i64 0) ∧ ChS w' p m vT ∧ Fr (At1 m) W w') := fun p m W b hW hb => by
    have h := make_any p m vS (fun k => k = b) (some ⟨b, 0, none⟩) 3 vCells1.toList vL1 W hW vInv ⟨rfl, fun _ => ⟨_, rfl, rfl, World.news_of_block hb⟩⟩ (fun k hk => by subst hk; exact ⟨hb.lt, fun h => hW.2.ne_ hb h.symm⟩) vE1 (by decide)
    rw [vm1, vm2] at h
    exact h
  have HCK : Hid (∀ p m W b, ChS W p m vT → Blk W b 47 vCells2 → Calls Try.prog 12 #[.pointer (some ⟨p, 0, none⟩), .slice (some ⟨b, 0, none⟩) 2 2] W fun e w' => e = .returned (.int .i64 8) ∧ Fr No W w') := fun p m W b hW hb => by
    have h := check_any p m vT (fun k => k = b) (some ⟨b, 0, none⟩) 2 vCells2.toList vL2 W hW vInvT ⟨rfl, fun _ => ⟨_, rfl, rfl, World.news_of_block hb⟩⟩ (fun k hk => by subst hk; exact hb.lt) vE2 (by decide)
    rw [vm3] at h
    exact h
  have HGT : Hid (∀ p m W, ChS W p m vT → Calls Try.prog 27 #[.pointer (some ⟨p, 0, none⟩), .string ⟨#[97]⟩] W fun e w' => e = .returned (.tuple #[.agg #[.string ⟨#[97]⟩, .int .i64 (-5), .int .i64 0, .int .i64 9], .int .i64 0]) ∧ ChS w' p m vT ∧ Fr (At1 m) W w') := fun p m W hW =>
    get_any p m vT ⟨#[97]⟩ W hW (by decide) (by decide)
  go_enter Try.func9, Try.ntmps9
  go_wp2_with fail
  refine (new_any w).mono ?_
  rintro e w1 ⟨p, m, rfl, hc1, hf1, hp1, hm1⟩
  have HC1 := Lib.hid hc1
  have HB1 : Hid (∀ W, Fr (At1 m) w1 W → Below w.heap.size w W) := fun W hW => below_fr hf1.belowNo hW hf1.size (fun i hi => by have : i = m := hi; omega)
  clear hc1 hf1
  go_wp2_with fail
  refine (HO1.out _ _ _ HC1.out).mono ?_
  rintro e w2 ⟨rfl, hc2, hf2⟩
  have HC2 := Lib.hid hc2
  have HF2 := Lib.hid hf2
  clear hc2 hf2
  go_wp2_with fail
  refine (HO2.out _ _ _ HC2.out).mono ?_
  rintro e w3 ⟨rfl, hc3, hf3⟩
  have HC3 := Lib.hid hc3
  have HF3 := Lib.hid (HF2.out.trans hf3)
  clear hc3 hf3
  go_wp2_with fail
  refine (HO3.out _ _ _ HC3.out).mono ?_
  rintro e w4 ⟨rfl, hc4, hf4⟩
  have HC4 := Lib.hid hc4
  have HF4 := Lib.hid (HF3.out.trans hf4)
  clear hc4 hf4
  go_wp2_with fail
  refine (HMK.out _ _ _ _ (HC4.out.no ((Fr.refl _ _).alloc _)) (Blk.new _ _ _)).mono ?_
  rintro e w5 ⟨rfl, hc5, hf5⟩
  have HC5 := Lib.hid hc5
  have HF5 := Lib.hid (HF4.out.trans (Fr.trans (S := At1 m) ((Fr.refl _ _).alloc _) hf5))
  clear hc5 hf5
  go_wp2_with fail
  refine (HCK.out p m _ _ (HC5.out.no ((Fr.refl _ _).alloc _)) (Blk.new _ _ _)).mono ?_
  rintro e w6 ⟨rfl, hf6⟩
  have hF6 : Fr No w5 w6 := Fr.trans ((Fr.refl _ _).alloc _) hf6
  have HC6 := Lib.hid (HC5.out.no hF6)
  have HF6 := Lib.hid (HF5.out.trans (hF6.mono fun _ _ h => False.elim h))
  clear hf6 hF6
  go_wp2_with fail
  refine (HGT.out _ _ _ HC6.out).mono ?_
  rintro e w7 ⟨rfl, hc7, hf7⟩
  have HF7 := Lib.hid (HF6.out.trans hf7)
  clear hc7 hf7
  go_wp2
  go_ret
  exact ⟨rfl, HB1.out _ (HF7.out.alloc _)⟩
end Go.Proofs.Ytpaeohmoecdniab
