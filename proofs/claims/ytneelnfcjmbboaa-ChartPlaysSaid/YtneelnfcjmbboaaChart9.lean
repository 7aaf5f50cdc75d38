/- What the laws on charts call first. -/
import Derived.Test.YtneelnfcjmbboaaChart8
namespace Go.Proofs.Ytneelnfcjmbboaa
open Go.RowKit Go.My Go.Maps
set_option linter.unusedSimpArgs false
set_option linter.unusedVariables false
attribute [local go_sem ↓] Go.wp_at_zero Go.wp_at_succ

def ac5 : Ac := ⟨[97], 0, 0, 5⟩
def ac6 : Ac := ⟨[97], -5, 0, 5⟩
theorem l1 : openE [] [97] 5 = 0 ∧ openS [] [97] 5 = [ac5] := by
  have h : openE [] [97] 5 = 0 := by decide
  exact ⟨h, by unfold openS; rw [h]; rfl⟩
theorem l2 : actE (fun a => giveE a 5) [ac5] [97] = 0 ∧ actS (fun a => giveE a 5) (fun a => giveA a 5) [ac5] [97] = [ac6] := by
  have h0 : giveE ac5 5 = 0 := by unfold giveE freeB In64 ac5; simp
  have h1 : getA [ac5] [97] = some ac5 := rfl
  refine ⟨by unfold actE; rw [h1]; exact h0, ?_⟩
  unfold actS
  rw [h1]
  simp only
  rw [if_pos h0]
  unfold giveA
  rw [if_pos h0]
  rfl
theorem l3 : actE (fun a => giveE a 1) [ac6] [97] = 9 ∧ actS (fun a => giveE a 1) (fun a => giveA a 1) [ac6] [97] = [ac6] := by
  have h0 : giveE ac6 1 = 9 := by unfold giveE freeB In64 ac6; simp
  have h1 : getA [ac6] [97] = some ac6 := rfl
  refine ⟨by unfold actE; rw [h1]; exact h0, ?_⟩
  unfold actS
  rw [h1]
  simp only
  rw [if_neg (by rw [h0]; decide)]
theorem l4 : getV [ac6] [97] = ac6 ∧ (if (getA [ac6] [97]).isSome then (0 : Int) else 6) = 0 := ⟨rfl, rfl⟩
theorem ok5 : OkS [ac5] := fun a h => by rw [List.mem_singleton.1 h]; unfold OkA In64 ac5; simp
theorem ok6 : OkS [ac6] := fun a h => by rw [List.mem_singleton.1 h]; unfold OkA In64 ac6; simp
theorem nm6 : NmS [ac6] := fun a h => by rw [List.mem_singleton.1 h]; unfold ac6; simp

set_option maxRecDepth 100000 in
set_option maxHeartbeats 8000000 in
theorem livesH (w : World) : Calls Try.prog 8 #[] w (RetTrue w) := by
  have HO : Hid (∀ p m W, ChS W p m [] → Calls Try.prog 24 #[.pointer (some ⟨p, 0, none⟩), .string ⟨#[97]⟩, .int .i64 5] W fun e w' => e = .returned (.int .i64 0) ∧ ChS w' p m [ac5] ∧ Fr (At1 m) W w') := fun p m W hW => by
    have h := open_any p m [] ⟨#[97]⟩ 5 W hW (by decide) (by unfold In64; omega) (by decide)
    rw [show (⟨#[97]⟩ : ByteArray).data.toList = [97] from rfl, l1.1, l1.2] at h
    exact h
  have HG : Hid (∀ p m W, ChS W p m [ac5] → Calls Try.prog 21 #[.pointer (some ⟨p, 0, none⟩), .string ⟨#[97]⟩, .int .i64 5] W fun e w' => e = .returned (.int .i64 0) ∧ ChS w' p m [ac6] ∧ Fr (At1 m) W w') := fun p m W hW => by
    have h := give_any p m [ac5] ⟨#[97]⟩ 5 W hW (by decide) (by decide) ok5 (by unfold In64; omega)
    rw [show (⟨#[97]⟩ : ByteArray).data.toList = [97] from rfl, l2.1, l2.2] at h
    exact h
  have HG2 : Hid (∀ p m W, ChS W p m [ac6] → Calls Try.prog 21 #[.pointer (some ⟨p, 0, none⟩), .string ⟨#[97]⟩, .int .i64 1] W fun e w' => e = .returned (.int .i64 9) ∧ ChS w' p m [ac6] ∧ Fr (At1 m) W w') := fun p m W hW => by
    have h := give_any p m [ac6] ⟨#[97]⟩ 1 W hW (by decide) (by decide) ok6 (by unfold In64; omega)
    rw [show (⟨#[97]⟩ : ByteArray).data.toList = [97] from rfl, l3.1, l3.2] at h
    exact h
  have HT : Hid (∀ p m W, ChS W p m [ac6] → Calls Try.prog 22 #[.pointer (some ⟨p, 0, none⟩), .string ⟨#[97]⟩] W fun e w' => e = .returned (.tuple #[.agg #[.string ⟨#[97]⟩, .int .i64 (-5), .int .i64 0, .int .i64 5], .int .i64 0]) ∧ ChS w' p m [ac6] ∧ Fr (At1 m) W w') := fun p m W hW =>
    get_any p m [ac6] ⟨#[97]⟩ W hW (by decide) (by decide)
  have HALL : Hid (∀ p m W, ChS W p m [ac6] → Calls Try.prog 16 #[.pointer (some ⟨p, 0, none⟩)] W fun e w' => ∃ A c, e = .returned (.slice A 1 c) ∧ Fr No W w') := fun p m W hW => by
    refine (all_any p m [ac6] W hW nm6 (by decide)).mono ?_
    rintro e w' ⟨v, rfl, ho, hf, _⟩
    obtain ⟨A, c, rfl, _, _⟩ := ho.form
    exact ⟨A, c, rfl, fr_at_none hf⟩
  have HN1 : Hid (∀ W, Calls Try.prog 17 #[.string ⟨#[97, 49]⟩] W fun e w' => e = .returned (.bool true) ∧ Fr No W w') := fun W =>
    (name_any ⟨#[97, 49]⟩ W (by decide)).mono fun e w' h => ⟨h.1.trans (by rfl), Fr.of_below h.2 _⟩
  have HN2 : Hid (∀ W, Calls Try.prog 17 #[.string ⟨#[65]⟩] W fun e w' => e = .returned (.bool false) ∧ Fr No W w') := fun W =>
    (name_any ⟨#[65]⟩ W (by decide)).mono fun e w' h => ⟨h.1.trans (by rfl), Fr.of_below h.2 _⟩
  have HNEW := Lib.hid (new_any w)
  go_enter Try.func8, Try.ntmps8
  go_upto_region 4 with (first
    | (go_at_call 9; refine HNEW.out.mono ?_; rintro e w1 ⟨p, m, rfl, hc1, hf1, hp1, hm1⟩)
    | (go_at_call 24; (with_reducible refine (HO.out _ _ _ hc1).mono ?_); rintro e w2 ⟨rfl, hc2, hf2⟩)
    | (go_at_call 21; (with_reducible refine (HG.out _ _ _ hc2).mono ?_); rintro e w3 ⟨rfl, hc3, hf3⟩)
    | (go_at_call 21; (with_reducible refine (HG2.out _ _ _ hc3).mono ?_); rintro e w4 ⟨rfl, hc4, hf4⟩)
    | (go_at_call 22; (with_reducible refine (HT.out _ _ _ hc4).mono ?_); rintro e w5 ⟨rfl, hc5, hf5⟩))
  have hb6 : AcB (w5.alloc (.cells #[.string ⟨#[97]⟩, .int .i64 (-5), .int .i64 0, .int .i64 5] 43)) w5.heap.size ac6 := Blk.new w5 43 #[.string ⟨#[97]⟩, .int .i64 (-5), .int .i64 0, .int .i64 5]
  have hf6 : Fr No w5 (w5.alloc (.cells #[.string ⟨#[97]⟩, .int .i64 (-5), .int .i64 0, .int .i64 5] 43)) := (Fr.refl _ _).alloc _
  have hc6 := hc5.no hf6
  have HB : Hid (∀ W, Fr No w5 W → Below w.heap.size w W) := fun W hW => by
    have h1 : Below w.heap.size w w1 := hf1.belowNo
    have h2 : Fr (At1 m) w1 w5 := ((hf2.trans hf3).trans hf4).trans hf5
    have h3 : Below w.heap.size w w5 := below_fr h1 h2 hf1.size (fun i hi => by have : i = m := hi; omega)
    exact below_fr_no h3 hW (by have := h2.size; have := hf1.size; omega)
  generalize (w5.alloc (.cells #[.string ⟨#[97]⟩, .int .i64 (-5), .int .i64 0, .int .i64 5] 43)) = w6 at *
  have HF : Hid (∀ W, Fr No w6 W → (W.cell? ⟨w5.heap.size, 0, none⟩ = some (.string ⟨#[97]⟩) ∧ W.cell? ⟨w5.heap.size, 1, none⟩ = some (.int .i64 (-5)) ∧ W.cell? ⟨w5.heap.size, 2, none⟩ = some (.int .i64 0) ∧ W.cell? ⟨w5.heap.size, 3, none⟩ = some (.int .i64 5))) := fun W hW => acb_cells (Blk.fr hb6 hW (fun h => h))
  have HC6 := Lib.hid hc6
  have HF6 := Lib.hid hf6
  have hw6 : Fr No w6 w6.drew := (Fr.refl No w6).drew
  clear hc1 hc2 hc3 hc4 hc5 hf1 hf2 hf3 hf4 hf5 hc6 hf6 hb6 HNEW HT HG HG2 HO hp1 hm1
  have HA2 : Hid (∀ W, Fr No w6 W → Calls Try.prog 16 #[.pointer (some ⟨p, 0, none⟩)] W fun e w' => ∃ A c, e = .returned (.slice A 1 c) ∧ Fr No W w') := fun W hW => HALL.out p m W (HC6.out.no hW)
  obtain ⟨c0, c1, c2, c3⟩ := HF.out _ (Fr.refl No w6)
  go_wp2_with (first
      | (go_at_call 16; (with_reducible refine (HA2.out _ (Fr.refl _ _)).mono ?_); rintro e w7 ⟨A7, c7, rfl, hf7⟩)
      | (go_at_call 17; (with_reducible refine (HN1.out _).mono ?_); rintro e w8 ⟨rfl, hf8'⟩; have hf8 := hf7.trans hf8')
      | (go_at_call 17; (with_reducible refine (HN2.out _).mono ?_); rintro e w9 ⟨rfl, hf9'⟩; have hf9 := hf8.trans hf9'))
  go_ret
  exact ⟨rfl, HB.out _ (HF6.out.trans hf9)⟩
end Go.Proofs.Ytneelnfcjmbboaa
