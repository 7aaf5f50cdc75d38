/- What the laws on orders call first. -/
import Derived.Test.YtlcbbkookjmnkaaOrdC
import Derived.Test.YtlcbbkookjmnkaaOrdB
import Derived.Test.YtlcbbkookjmnkaaSameB
namespace Go.Proofs.Ytlcbbkookjmnkaa
open Go.RowKit Go.My Go.Maps
set_option linter.unusedSimpArgs false
set_option linter.unusedVariables false
attribute [local go_sem ↓] Go.wp_at_zero Go.wp_at_succ

def askO : Od := ⟨0, 1, 7, ⟨#[97]⟩, ⟨#[]⟩, 0, [], 0, 0, ⟨#[]⟩⟩
def askB : List UInt8 := [0, 2, 14, 2, 97, 0, 0, 0, 0, 0, 0]
theorem ask_right : rightO askO = true := by decide
theorem ask_bytes : bytesO askO = askB := by decide
theorem ask_obl : obL askO = askB ∧ obE askO = 0 := ⟨by unfold obL; rw [if_pos ask_right, ask_bytes], by unfold obE; rw [if_pos ask_right]⟩
theorem ask_ok : askO.ok := by
  unfold askO Od.ok In64
  simp only
  refine ⟨by omega, by omega, by omega, by decide, by decide, by omega, by omega, by omega, by decide⟩
theorem ask_read : readO askB = askO ∧ readE askB = 0 := by
  have h := bytes_read ask_right ask_ok (fun g hg => by cases hg)
  rw [ask_bytes] at h
  exact ⟨h.2, by unfold readE; rw [if_pos h.1]⟩
theorem LgS_zero (w : World) (F : Nat → Prop) (A : Option Addr) (c : Nat) (hc : c ≤ maxLen) : LgS w F (.slice A 0 c) [] := ⟨A, c, [], rfl, ⟨by simp, fun h => absurd h (by simp)⟩, ⟨rfl, fun i x hx => by simp at hx⟩, Nat.zero_le _, hc⟩
theorem LgS_nil (w : World) (F : Nat → Prop) : LgS w F (.slice none 0 0) [] := ⟨none, 0, [], rfl, Rd.none_, ⟨rfl, fun i x hx => by simp at hx⟩, Nat.le_refl _, by unfold maxLen; omega⟩
set_option maxRecDepth 100000 in
theorem ask_any (w : World) : Calls Try.prog 31 #[] w fun e w' => e = .returned (.agg #[.int .i64 0, .int .i64 1, .int .i64 7, .string ⟨#[97]⟩, .string ⟨#[]⟩, .int .i64 0, .slice none 0 0, .int .i64 0, .int .i64 0, .string ⟨#[]⟩]) ∧ Fr No w w' := by
  have hb := Blk.new w 26 #[.int .i64 0, .int .i64 1, .int .i64 7, .string ⟨#[97]⟩, .string ⟨#[]⟩, .int .i64 0, .slice none 0 0, .int .i64 0, .int .i64 0, .string ⟨#[]⟩]
  have d0 := hb.cell 0
  have d1 := hb.cell 1
  have d2 := hb.cell 2
  have d3 := hb.cell 3
  have d4 := hb.cell 4
  have d5 := hb.cell 5
  have d6 := hb.cell 6
  have d7 := hb.cell 7
  have d8 := hb.cell 8
  have d9 := hb.cell 9
  simp only [List.getElem?_toArray, List.getElem?_cons_zero, List.getElem?_cons_succ] at d0 d1 d2 d3 d4 d5 d6 d7 d8 d9
  go_enter Try.func31, Try.ntmps31
  go_wp2
  refine bodyPost_ret (v := .agg #[.int .i64 0, .int .i64 1, .int .i64 7, .string ⟨#[97]⟩, .string ⟨#[]⟩, .int .i64 0, .slice none 0 0, .int .i64 0, .int .i64 0, .string ⟨#[]⟩]) (by simp [results, Try.results31, go_sem, d0, d1, d2, d3, d4, d5, d6, d7, d8, d9]) rfl ?_
  exact ⟨rfl, (Fr.refl _ _).alloc _⟩
theorem num2003 (w : World) : Calls Try.prog 29 #[.agg #[.int .i64 2, .int .i64 3]] w fun e w' => e = .returned (.int .i64 2003) ∧ Fr No w w' := by
  go_enter Try.func29, Try.ntmps29
  go_wp2
  go_ret
  exact ⟨rfl, (Fr.refl _ _).alloc _⟩
theorem same_ask (W : World) (Av : Option Addr) (cv : Nat) (hc : cv ≤ maxLen) : Calls Try.prog 25 #[.agg #[.int .i64 0, .int .i64 1, .int .i64 7, .string ⟨#[97]⟩, .string ⟨#[]⟩, .int .i64 0, .slice Av 0 cv, .int .i64 0, .int .i64 0, .string ⟨#[]⟩], .agg #[.int .i64 0, .int .i64 1, .int .i64 7, .string ⟨#[97]⟩, .string ⟨#[]⟩, .int .i64 0, .slice none 0 0, .int .i64 0, .int .i64 0, .string ⟨#[]⟩]] W fun e w' => e = .returned (.bool true) ∧ Fr No W w' := by
  have h := osame_any (fun _ => True) (fun _ => True) askO askO (.slice Av 0 cv) (.slice none 0 0) W (LgS_zero _ _ _ _ hc) (LgS_nil _ _)
  rw [(eqO_iff _ _).2 rfl] at h
  exact h
theorem right_ask (W : World) (Av : Option Addr) (cv : Nat) (hc : cv ≤ maxLen) : Calls Try.prog 13 #[.agg #[.int .i64 0, .int .i64 1, .int .i64 7, .string ⟨#[97]⟩, .string ⟨#[]⟩, .int .i64 0, .slice Av 0 cv, .int .i64 0, .int .i64 0, .string ⟨#[]⟩]] W fun e w' => e = .returned (.bool true) ∧ Fr No W w' := by
  have h := rightO_any (fun _ => True) askO (.slice Av 0 cv) W ask_ok (LgS_zero _ _ _ _ hc)
  rw [ask_right] at h
  exact h
theorem askB_rd {w : World} {g : Nat} {t : TypeId} (h : Blk w g t #[.int .u8 0, .int .u8 2, .int .u8 14, .int .u8 2, .int .u8 97, .int .u8 0, .int .u8 0, .int .u8 0, .int .u8 0, .int .u8 0, .int .u8 0]) : Rd w (At1 g) 1 (some ⟨g, 0, none⟩) 11 (bs askB) := by
  refine ⟨rfl, fun _ => ⟨_, rfl, rfl, fun j u hu => ?_⟩⟩
  rw [add_zero, h.cell j]
  have e : (#[.int .u8 0, .int .u8 2, .int .u8 14, .int .u8 2, .int .u8 97, .int .u8 0, .int .u8 0, .int .u8 0, .int .u8 0, .int .u8 0, .int .u8 0] : Array Value) = (bs askB).toArray := rfl
  rw [e]
  simpa using hu
set_option maxRecDepth 100000 in
set_option maxHeartbeats 4000000 in
theorem lives6 (w : World) : Calls Try.prog 9 #[] w (RetTrue w) := by
  have HASK := Lib.hid (fun W => ask_any W)
  have HBY : Hid (∀ W, Calls Try.prog 11 #[.agg #[.int .i64 0, .int .i64 1, .int .i64 7, .string ⟨#[97]⟩, .string ⟨#[]⟩, .int .i64 0, .slice none 0 0, .int .i64 0, .int .i64 0, .string ⟨#[]⟩]] W fun e w' => ∃ A c, e = .returned (.tuple #[.slice A 11 c, .int .i64 0]) ∧ Rd w' (fun _ => True) 1 A 11 (bs askB) ∧ Fr No W w') := fun W => by
    have h := obytes_any (fun _ => True) askO (.slice none 0 0) W ask_ok (LgS_nil _ _)
    rw [ask_obl.1, ask_obl.2] at h
    refine h.mono ?_
    rintro e w' ⟨A, c, rfl, ho, hf⟩
    exact ⟨A, c, rfl, ho.rd.more (fun _ _ => True.intro), hf⟩
  have HRE : Hid (∀ W g t, Blk W g t #[.int .u8 0, .int .u8 2, .int .u8 14, .int .u8 2, .int .u8 97, .int .u8 0, .int .u8 0, .int .u8 0, .int .u8 0, .int .u8 0, .int .u8 0] → Calls Try.prog 21 #[.slice (some ⟨g, 0, none⟩) 11 11] W fun e w' => (∃ Av cv, e = .returned (.tuple #[.agg #[.int .i64 0, .int .i64 1, .int .i64 7, .string ⟨#[97]⟩, .string ⟨#[]⟩, .int .i64 0, .slice Av 0 cv, .int .i64 0, .int .i64 0, .string ⟨#[]⟩], .int .i64 0]) ∧ cv ≤ maxLen) ∧ Fr No W w') := fun W g t hb => by
    have h := oread_any _ _ 11 11 askB W rfl (askB_rd hb) (by omega)
    rw [ask_read.1, ask_read.2] at h
    refine h.mono ?_
    rintro e w' ⟨v, rfl, ho, hf⟩
    obtain ⟨A, c, rfl, h1, h2⟩ := ho.form
    exact ⟨⟨A, c, rfl, h2⟩, hf⟩
  have HNM := Lib.hid (fun W => num2003 W)
  go_enter Try.func9, Try.ntmps9
  go_wp2_with fail
  refine (HASK.out _).mono ?_
  rintro e w1 ⟨rfl, hf1⟩
  go_wp2_with fail
  refine (HBY.out _).mono ?_
  rintro e w2 ⟨A2, c2, rfl, hrd2, hf2⟩
  have HR2 := Lib.hid hrd2
  have HF2 := Lib.hid (hf1.trans hf2)
  clear hrd2 hf1 hf2
  go_wp2_with fail
  refine (HRE.out _ _ 5 (Blk.new w2 _ _)).mono ?_
  rintro e w3 ⟨⟨Av, cv, rfl, hcv⟩, hf3⟩
  have HF3 : Hid (Fr No w2 w3) := ((Fr.refl _ _).alloc _).trans hf3
  have HSA := Lib.hid (fun W => same_ask W Av cv hcv)
  have HRA := Lib.hid (fun W => right_ask W Av cv hcv)
  clear hf3 hcv
  go_upto_region 3 with (fail)
  have hb4 := Blk.new w3 26 #[.int .i64 0, .int .i64 1, .int .i64 7, .string ⟨#[97]⟩, .string ⟨#[]⟩, .int .i64 0, .slice Av 0 cv, .int .i64 0, .int .i64 0, .string ⟨#[]⟩]
  have hf4 : Fr No w3 (w3.alloc (.cells #[.int .i64 0, .int .i64 1, .int .i64 7, .string ⟨#[97]⟩, .string ⟨#[]⟩, .int .i64 0, .slice Av 0 cv, .int .i64 0, .int .i64 0, .string ⟨#[]⟩] 26)) := (Fr.refl _ _).alloc _
  generalize w3.alloc (.cells #[.int .i64 0, .int .i64 1, .int .i64 7, .string ⟨#[97]⟩, .string ⟨#[]⟩, .int .i64 0, .slice Av 0 cv, .int .i64 0, .int .i64 0, .string ⟨#[]⟩] 26) = w4 at *
  have HX : Hid (∀ W, Fr No w4 W → Fr No w4 W ∧ W.cell? ⟨w3.heap.size, 0, none⟩ = some (.int .i64 0) ∧ W.cell? ⟨w3.heap.size, 1, none⟩ = some (.int .i64 1) ∧ W.cell? ⟨w3.heap.size, 2, none⟩ = some (.int .i64 7) ∧ W.cell? ⟨w3.heap.size, 3, none⟩ = some (.string ⟨#[97]⟩) ∧ W.cell? ⟨w3.heap.size, 4, none⟩ = some (.string ⟨#[]⟩) ∧ W.cell? ⟨w3.heap.size, 5, none⟩ = some (.int .i64 0) ∧ W.cell? ⟨w3.heap.size, 6, none⟩ = some (.slice Av 0 cv) ∧ W.cell? ⟨w3.heap.size, 7, none⟩ = some (.int .i64 0) ∧ W.cell? ⟨w3.heap.size, 8, none⟩ = some (.int .i64 0) ∧ W.cell? ⟨w3.heap.size, 9, none⟩ = some (.string ⟨#[]⟩)) := fun W hW => by
    have h := hb4.fr hW (fun h => h)
    exact ⟨hW, h.cell 0, h.cell 1, h.cell 2, h.cell 3, h.cell 4, h.cell 5, h.cell 6, h.cell 7, h.cell 8, h.cell 9⟩
  have HSB : Hid (∀ g t W, Fr No w4 W → Blk W g t #[.int .u8 0, .int .u8 2, .int .u8 14, .int .u8 2, .int .u8 97, .int .u8 0, .int .u8 0, .int .u8 0, .int .u8 0, .int .u8 0, .int .u8 0] → Calls Try.prog 15 #[.slice A2 11 c2, .slice (some ⟨g, 0, none⟩) 11 11] W fun e w' => e = .returned (.bool true) ∧ W = w') := fun g t W hW hb => by
    have h1 : Rd W (fun _ => True) 1 A2 11 (bs askB) := HR2.out.fr (by omega) ((HF3.out.trans hf4).trans hW) (fun _ _ _ h => h)
    exact sameB_eq _ _ A2 _ 11 c2 11 11 askB askB W rfl h1 (askB_rd hb)
  have HFX := Lib.hid ((HF2.out.trans HF3.out).trans hf4)
  have hw4 : Fr No w4 w4.drew := (Fr.refl No w4).drew
  clear hb4 hf4 HBY HRE
  go_region_held3 (fun W => Fr No w4 W ∧ W.cell? ⟨w3.heap.size, 0, none⟩ = some (.int .i64 0) ∧ W.cell? ⟨w3.heap.size, 1, none⟩ = some (.int .i64 1) ∧ W.cell? ⟨w3.heap.size, 2, none⟩ = some (.int .i64 7) ∧ W.cell? ⟨w3.heap.size, 3, none⟩ = some (.string ⟨#[97]⟩) ∧ W.cell? ⟨w3.heap.size, 4, none⟩ = some (.string ⟨#[]⟩) ∧ W.cell? ⟨w3.heap.size, 5, none⟩ = some (.int .i64 0) ∧ W.cell? ⟨w3.heap.size, 6, none⟩ = some (.slice Av 0 cv) ∧ W.cell? ⟨w3.heap.size, 7, none⟩ = some (.int .i64 0) ∧ W.cell? ⟨w3.heap.size, 8, none⟩ = some (.int .i64 0) ∧ W.cell? ⟨w3.heap.size, 9, none⟩ = some (.string ⟨#[]⟩))
    (first
      | (refine HX.out _ ?_; with_reducible assumption)
      | (refine HX.out _ (Fr.alloc ?_ _); with_reducible assumption)
      | (refine HX.out _ (Fr.drew (Fr.alloc ?_ _)); with_reducible first | assumption | exact Fr.refl No w4))
    (first
      | (go_at_call 15; have q1 := HSB.out w4.heap.size 5 ((w4.alloc (.cells #[.int .u8 0, .int .u8 2, .int .u8 14, .int .u8 2, .int .u8 97, .int .u8 0, .int .u8 0, .int .u8 0, .int .u8 0, .int .u8 0, .int .u8 0] 5)).drew) (((Fr.refl No w4).alloc _).drew) (Blk.new w4 _ _); (with_reducible refine q1.mono ?_); rintro e u1 ⟨rfl, rfl⟩; have hg1 : Fr No w4 ((w4.alloc (.cells #[.int .u8 0, .int .u8 2, .int .u8 14, .int .u8 2, .int .u8 97, .int .u8 0, .int .u8 0, .int .u8 0, .int .u8 0, .int .u8 0, .int .u8 0] 5)).drew) := ((Fr.refl No w4).alloc _).drew)
      | (go_at_call 31; (with_reducible refine (HASK.out _).mono ?_); rintro e u2 ⟨rfl, hf2⟩; have hg2 := Fr.trans hg1 hf2)
      | (go_at_call 25; (with_reducible refine (HSA.out _).mono ?_); rintro e u3 ⟨rfl, hf3⟩; have hg3 := Fr.trans hg2 hf3)
      | (go_at_call 13; (with_reducible refine (HRA.out _).mono ?_); rintro e u4 ⟨rfl, hf4⟩; have hg4 := Fr.trans hg3 hf4)
      | (go_at_call 29; (with_reducible refine (HNM.out _).mono ?_); rintro e u5 ⟨rfl, hf5⟩; have hg5 := Fr.trans hg4 hf5))
  all_goals
    go_wp2
    go_ret
    exact ⟨rfl, (HFX.out.trans hg5).belowNo⟩
end Go.Proofs.Ytlcbbkookjmnkaa
