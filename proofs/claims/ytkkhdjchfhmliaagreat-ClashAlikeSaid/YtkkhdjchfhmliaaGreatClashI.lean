/- What the laws on clashes call first: the walk. -/
import Derived.Test.YtkkhdjchfhmliaaGreatClashH
namespace Go.Proofs.YtkkhdjchfhmliaaGreat
open Go.RowKit Go.My Go.Maps Go.WideMaps
set_option linter.unusedSimpArgs false
set_option linter.unusedVariables false
attribute [local go_sem ↓] Go.wp_at_zero Go.wp_at_succ

theorem live_ls {W : World} {g : Nat} {t : TypeId} (hb : Blk W g t liveC10.toArray) : Ls W (fun k => k = g) (some ⟨g, 0, none⟩) 3 liveX := ⟨ods_blk hb (liveE10 W), by decide, by decide, by decide⟩
theorem live_y : ∀ o ∈ liveY, o.legs.length ≤ 100000 := by decide
set_option maxRecDepth 100000 in
set_option maxHeartbeats 1000000 in
theorem lives10 (w : World) : Calls Tryz.prog 5 #[] w (fun e w' => e = .returned (.bool true) ∧ Fr No w w') := by
  have HA := Lib.hid (fun s a W => ask10_any s a W)
  have HS0 : Hid (∀ W g t, Blk W g t liveC10.toArray → Calls Tryz.prog 13 #[.slice (some ⟨g, 0, none⟩) 3 3, .int .i64 0] W fun e w' => ∃ A c, e = .returned (.tuple #[.slice A 3 c, .bool true]) ∧ OwnN W.heap.size w' (.slice A 3 c) liveY ∧ Fr No W w') := fun W g t hb => by
    have h := swapC_any W _ _ 3 liveX 0 (live_ls hb) (by unfold In64; omega)
    rw [live_1] at h
    refine Calls.mono h ?_
    rintro e w' ⟨A, c, h1, h2, h3, _⟩
    exact ⟨A, c, h1, h2, h3⟩
  have HS1 : Hid (∀ W g t, Blk W g t liveC10.toArray → Calls Tryz.prog 13 #[.slice (some ⟨g, 0, none⟩) 3 3, .int .i64 1] W fun e w' => e = .returned (.tuple #[.slice none 0 0, .bool false]) ∧ Fr No W w') := fun W g t hb => by
    have h := swapC_any W _ _ 3 liveX 1 (live_ls hb) (by unfold In64; omega)
    rw [live_2] at h
    exact h
  have HAL : Hid (∀ W g t A c B, Blk W g t liveC10.toArray → OwnN B W (.slice A 3 c) liveY → Calls Tryz.prog 10 #[.slice (some ⟨g, 0, none⟩) 3 3, .slice A 3 c] W fun e w' => e = .returned (.bool true) ∧ Fr No W w') := fun W g t A c B hb ho => by
    obtain ⟨A2, c2, e, h1, h2⟩ := ho.form
    injection e with e1 e2 e3
    subst e1 e3
    have h := alikeC_any W _ _ _ A 3 c liveX liveY (live_ls hb) ⟨ho.ods, by decide, h1, live_y⟩
    rw [live_3] at h
    exact h
  have HBG : Hid (∀ W g t A c B, Blk W g t liveC10.toArray → OwnN B W (.slice A 3 c) liveY → Calls Tryz.prog 16 #[.slice (some ⟨g, 0, none⟩) 1 3, .slice A 3 c] W fun e w' => e = .returned (.bool true) ∧ Fr No W w') := fun W g t A c B hb ho => by
    obtain ⟨A2, c2, e, h1, h2⟩ := ho.form
    injection e with e1 e2 e3
    subst e1 e3
    have hl := live_ls hb
    have h := beginsC_any W _ _ _ A 3 c (liveX.take 1) liveY ⟨hl.ods.takeO 1 (by decide), by decide, by decide, by decide⟩ ⟨ho.ods, by decide, h1, live_y⟩
    rw [live_4] at h
    exact h
  have HBD : Hid (∀ W g t A c B, Blk W g t liveC10.toArray → OwnN B W (.slice A 3 c) liveY → Calls Tryz.prog 16 #[.slice (some ⟨g, 20, none⟩) 1 1, .slice A 3 c] W fun e w' => e = .returned (.bool false) ∧ Fr No W w') := fun W g t A c B hb ho => by
    obtain ⟨A2, c2, e, h1, h2⟩ := ho.form
    injection e with e1 e2 e3
    subst e1 e3
    have hl := live_ls hb
    have h := beginsC_any W _ _ (some ⟨g, 20, none⟩) A 1 c (liveX.drop 2) liveY ⟨hl.ods.dropO (c := 3) 2 (by decide) (by decide), by decide, by decide, by decide⟩ ⟨ho.ods, by decide, h1, live_y⟩
    rw [live_6] at h
    exact h
  have HCL : Hid (∀ W, Calls Tryz.prog 17 #[.agg #[.int .i64 0, .int .i64 2, .int .i64 7, .string ⟨#[98]⟩, .string ⟨#[]⟩, .int .i64 0, .slice none 0 0, .int .i64 0, .int .i64 0, .string ⟨#[]⟩], .agg #[.int .i64 0, .int .i64 3, .int .i64 7, .string ⟨#[98]⟩, .string ⟨#[]⟩, .int .i64 0, .slice none 0 0, .int .i64 0, .int .i64 0, .string ⟨#[]⟩]] W fun e w' => e = .returned (.bool true) ∧ Fr No W w') := fun W => by
    have h := clash_any No No (ask10 2 ⟨#[98]⟩) (ask10 3 ⟨#[98]⟩) (.slice none 0 0) (.slice none 0 0) W (LgS_nil _ _) (LgS_nil _ _) (by decide) (by decide)
    rw [live_5] at h
    exact h
  go_enter Tryz.func5, Tryz.ntmps5
  go_wp2_with fail
  (with_reducible refine (HA.out _ _ _).mono ?_)
  rintro e w1 ⟨rfl, hf1⟩
  go_wp2_with fail
  (with_reducible refine (HA.out _ _ _).mono ?_)
  rintro e w2 ⟨rfl, hf2⟩
  go_wp2_with fail
  (with_reducible refine (HA.out _ _ _).mono ?_)
  rintro e w3 ⟨rfl, hf3⟩
  have HF3 := Lib.hid ((hf1.trans hf2).trans hf3)
  clear hf1 hf2 hf3
  have HB3 : Hid (Blk (w3.alloc (.cells liveC10.toArray 39)) w3.heap.size 39 liveC10.toArray) := Blk.new _ _ _
  have HF3a : Hid (Fr No w (w3.alloc (.cells liveC10.toArray 39))) := HF3.out.alloc _
  go_wp2_with fail
  refine (HS0.out _ _ _ HB3.out).mono ?_
  rintro e w4 ⟨A, c, rfl, ho4, hf4⟩
  have HB4 := Lib.hid (HB3.out.fr hf4 (fun h => h))
  have HF4 := Lib.hid (HF3a.out.trans hf4)
  have HO4 := Lib.hid ho4
  clear ho4 hf4 HB3 HF3a HF3
  generalize w3.heap.size = g at *
  go_wp2_with fail
  refine (HS1.out _ _ _ HB4.out).mono ?_
  rintro e w5 ⟨rfl, hf5⟩
  have HB5 := Lib.hid (HB4.out.fr hf5 (fun h => h))
  have HF5 := Lib.hid (HF4.out.trans hf5)
  have HO5 := Lib.hid (HO4.out.no hf5)
  clear hf5 HB4 HF4 HO4 HS0 HS1 HA
  obtain ⟨g2, rfl⟩ : ∃ g2, A = some ⟨g2, 0, none⟩ := by
    obtain ⟨cells, ⟨_, hown⟩, _⟩ := HO5.out
    rcases hown with ⟨_, h0⟩ | ⟨g2, cap, cur, hv, _⟩
    · exact absurd h0 (by decide)
    injection hv with hv1
    exact ⟨g2, hv1⟩
  obtain ⟨v2, -, -, -, hc2⟩ := HO5.out.at_ 0 (by decide)
  have s1 := fun x : WIn (Fr No w5) => (show x.W.cell? ⟨g2, 1, none⟩ = some (.int .i64 2) from x.h.cell_some (hc2 1 _ (by decide) rfl) (fun h => h))
  clear hc2
  have c10 := fun x : WIn (Fr No w5) => (show x.W.cell? ⟨g, 10, none⟩ = some (.int .i64 0) from (HB5.out.fr x.h (fun h => h)).cell 10)
  have c11 := fun x : WIn (Fr No w5) => (show x.W.cell? ⟨g, 11, none⟩ = some (.int .i64 2) from (HB5.out.fr x.h (fun h => h)).cell 11)
  have c12 := fun x : WIn (Fr No w5) => (show x.W.cell? ⟨g, 12, none⟩ = some (.int .i64 7) from (HB5.out.fr x.h (fun h => h)).cell 12)
  have c13 := fun x : WIn (Fr No w5) => (show x.W.cell? ⟨g, 13, none⟩ = some (.string ⟨#[98]⟩) from (HB5.out.fr x.h (fun h => h)).cell 13)
  have c14 := fun x : WIn (Fr No w5) => (show x.W.cell? ⟨g, 14, none⟩ = some (.string ⟨#[]⟩) from (HB5.out.fr x.h (fun h => h)).cell 14)
  have c15 := fun x : WIn (Fr No w5) => (show x.W.cell? ⟨g, 15, none⟩ = some (.int .i64 0) from (HB5.out.fr x.h (fun h => h)).cell 15)
  have c16 := fun x : WIn (Fr No w5) => (show x.W.cell? ⟨g, 16, none⟩ = some (.slice none 0 0) from (HB5.out.fr x.h (fun h => h)).cell 16)
  have c17 := fun x : WIn (Fr No w5) => (show x.W.cell? ⟨g, 17, none⟩ = some (.int .i64 0) from (HB5.out.fr x.h (fun h => h)).cell 17)
  have c18 := fun x : WIn (Fr No w5) => (show x.W.cell? ⟨g, 18, none⟩ = some (.int .i64 0) from (HB5.out.fr x.h (fun h => h)).cell 18)
  have c19 := fun x : WIn (Fr No w5) => (show x.W.cell? ⟨g, 19, none⟩ = some (.string ⟨#[]⟩) from (HB5.out.fr x.h (fun h => h)).cell 19)
  have c20 := fun x : WIn (Fr No w5) => (show x.W.cell? ⟨g, 20, none⟩ = some (.int .i64 0) from (HB5.out.fr x.h (fun h => h)).cell 20)
  have c21 := fun x : WIn (Fr No w5) => (show x.W.cell? ⟨g, 21, none⟩ = some (.int .i64 3) from (HB5.out.fr x.h (fun h => h)).cell 21)
  have c22 := fun x : WIn (Fr No w5) => (show x.W.cell? ⟨g, 22, none⟩ = some (.int .i64 7) from (HB5.out.fr x.h (fun h => h)).cell 22)
  have c23 := fun x : WIn (Fr No w5) => (show x.W.cell? ⟨g, 23, none⟩ = some (.string ⟨#[98]⟩) from (HB5.out.fr x.h (fun h => h)).cell 23)
  have c24 := fun x : WIn (Fr No w5) => (show x.W.cell? ⟨g, 24, none⟩ = some (.string ⟨#[]⟩) from (HB5.out.fr x.h (fun h => h)).cell 24)
  have c25 := fun x : WIn (Fr No w5) => (show x.W.cell? ⟨g, 25, none⟩ = some (.int .i64 0) from (HB5.out.fr x.h (fun h => h)).cell 25)
  have c26 := fun x : WIn (Fr No w5) => (show x.W.cell? ⟨g, 26, none⟩ = some (.slice none 0 0) from (HB5.out.fr x.h (fun h => h)).cell 26)
  have c27 := fun x : WIn (Fr No w5) => (show x.W.cell? ⟨g, 27, none⟩ = some (.int .i64 0) from (HB5.out.fr x.h (fun h => h)).cell 27)
  have c28 := fun x : WIn (Fr No w5) => (show x.W.cell? ⟨g, 28, none⟩ = some (.int .i64 0) from (HB5.out.fr x.h (fun h => h)).cell 28)
  have c29 := fun x : WIn (Fr No w5) => (show x.W.cell? ⟨g, 29, none⟩ = some (.string ⟨#[]⟩) from (HB5.out.fr x.h (fun h => h)).cell 29)
  have hne : Nonempty (WIn (Fr No w5)) := ⟨⟨_, Fr.refl _ _⟩⟩
  go_upto_region 4 with (fail)
  refine wp_region_in (D := Fr No w5) (by kernel_rfl) (by kernel_rfl) (Fr.refl _ _).drew ?_
  repeat (go_big_quiet_step ((first
    | (go_at_call 10; refine Calls.in_of (v := .bool true) _ fun W hW => ?_; (with_reducible refine (HAL.out W _ _ _ _ _ (HB5.out.fr hW (fun h => h)) (HO5.out.no hW)).mono ?_); exact fun _ _ h => ⟨h.1, Fr.trans hW h.2⟩)
    | (go_at_call 17; refine Calls.in_of (v := .bool true) _ fun W hW => ?_; (with_reducible refine (HCL.out W).mono ?_); exact fun _ _ h => ⟨h.1, Fr.trans hW h.2⟩)
    | (go_at_call 16; refine Calls.in_of (v := .bool true) _ fun W hW => ?_; (with_reducible refine (HBG.out W _ _ _ _ _ (HB5.out.fr hW (fun h => h)) (HO5.out.no hW)).mono ?_); exact fun _ _ h => ⟨h.1, Fr.trans hW h.2⟩)
    | (go_at_call 16; refine Calls.in_of (v := .bool false) _ fun W hW => ?_; (with_reducible refine (HBD.out W _ _ _ _ _ (HB5.out.fr hW (fun h => h)) (HO5.out.no hW)).mono ?_); exact fun _ _ h => ⟨h.1, Fr.trans hW h.2⟩))))
  refine wpQuiet_nil ?_
  rintro _ ⟨⟨wq, hq⟩, rfl⟩
  go_wp2
  go_ret
  exact ⟨rfl, HF5.out.trans hq⟩
end Go.Proofs.YtkkhdjchfhmliaaGreat
