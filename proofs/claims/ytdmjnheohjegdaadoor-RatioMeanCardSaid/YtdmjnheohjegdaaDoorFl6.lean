/- Contracts: texts of numbers, and that the program lives. -/
import Derived.Test.YtdmjnheohjegdaaDoorFl5
import Derived.Test.YtdmjnheohjegdaaDoorCoinsRef5
namespace Go.Proofs.YtdmjnheohjegdaaDoor
open Go.RowKit Go.My Go.My.Fl
set_option linter.unusedSimpArgs false
set_option linter.unusedVariables false

theorem rndO_in {b : Nat} {n : Int} (h : rndO b = some n) : In64 n := by
  unfold rndO at h
  split at h
  · split at h
    · rename_i hr
      injection h with h
      subst h
      unfold inR at hr; unfold In64; omega
    · cases h
  · cases h
/-- so many thousandths -/
def thO (x : Nat) : Option Int := (Ieee.double.mul x 4652007308841189376).bind rndO
theorem thO_in {x : Nat} {n : Int} (h : thO x = some n) : In64 n := by
  unfold thO at h
  cases hm : Ieee.double.mul x 4652007308841189376 with
  | none => rw [hm] at h; cases h
  | some r => rw [hm] at h; exact rndO_in h
def showB (x : Nat) : ByteArray :=
  if nanB x then ⟨#[110, 97, 110]⟩ else if infS x false then ⟨#[105, 110, 102]⟩ else if infS x true then ⟨#[45, 105, 110, 102]⟩ else
  match thO x with | none => ⟨#[102, 97, 114]⟩ | some n => ⟨(textF n 3).toArray⟩

set_option maxHeartbeats 1000000 in
theorem show_any (x : Nat) (hx : x < 18446744073709551616) (w : World) (ht : Tab w) : Calls Tryd.prog 14 #[.float .f64 x] w fun e w' => e = .returned (.string (showB x)) ∧ Fr No w w' := by
  have H1 := Lib.hid fun W => isNaN_any x W
  have H2 := Lib.hid fun W => isInf1_any x W
  have H3 := Lib.hid fun W => isInfM_any x hx W
  have o1 := run_op Tryd.prog 22 .mul x 4652007308841189376 (.inr (.inr (.inl rfl))) w
  have o2 := opR_rnd (fv_op .mul x 4652007308841189376 w)
  have o3 := fw_fr .mul x 4652007308841189376 (Fr.refl No w)
  rw [show (floatBits .mul .f64 x 4652007308841189376).bind rndO = thO x from rfl] at o2
  generalize fv .mul x 4652007308841189376 w = r at *
  generalize fw .mul x 4652007308841189376 w = W1 at *
  have H4 := Lib.hid fun W => round_any r W
  rw [o2] at H4
  unfold showB
  have hin := fun n (h : thO x = some n) => thO_in h
  generalize nanB x = b1 at *
  generalize infS x false = b2 at *
  generalize infS x true = b3 at *
  generalize thO x = o at *
  have O3 := Lib.hid o3
  clear o2 o3 hx
  cases b1
  · cases b2
    · cases b3
      · cases o with
        | none =>
          have H5 : Hid (∀ W, Calls Tryd.prog 22 #[.float .f64 r] W fun e w' => e = .returned (.tuple #[.int .i64 0, .int .i64 13]) ∧ Fr No W w') := H4
          clear H4 hin ht
          go_enter Tryd.func14, Tryd.ntmps14
          go_wp2_with fail
          refine (H1.out _).mono ?_
          rintro e w2 ⟨rfl, rfl⟩
          go_wp2_with fail
          refine (H2.out _).mono ?_
          rintro e w2 ⟨rfl, rfl⟩
          go_wp2_with fail
          refine (H3.out _).mono ?_
          rintro e w2 ⟨rfl, rfl⟩
          go_wp2_with fail
          refine (H5.out _).mono ?_
          rintro e w3 ⟨rfl, hw3⟩
          go_wp2
          go_ret
          exact ⟨rfl, O3.out.trans hw3⟩
        | some n =>
          have H5 : Hid (∀ W, Calls Tryd.prog 22 #[.float .f64 r] W fun e w' => e = .returned (.tuple #[.int .i64 n, .int .i64 0]) ∧ Fr No W w') := H4
          have HT := Lib.hid ht
          have HN := Lib.hid (hin n rfl)
          clear H4 hin ht
          go_enter Tryd.func14, Tryd.ntmps14
          go_wp2_with fail
          refine (H1.out _).mono ?_
          rintro e w2 ⟨rfl, rfl⟩
          go_wp2_with fail
          refine (H2.out _).mono ?_
          rintro e w2 ⟨rfl, rfl⟩
          go_wp2_with fail
          refine (H3.out _).mono ?_
          rintro e w2 ⟨rfl, rfl⟩
          go_wp2_with fail
          refine (H5.out _).mono ?_
          rintro e w3 ⟨rfl, hw3⟩
          go_wp2_with fail
          refine (text_any n 3 w3 HN.out (tab_below HT.out (O3.out.trans hw3).belowNo)).mono ?_
          rintro e w4 ⟨rfl, hw4⟩
          go_wp2
          go_ret
          exact ⟨rfl, (O3.out.trans hw3).trans (Fr.of_below hw4 No)⟩
      · clear H4 hin ht
        go_enter Tryd.func14, Tryd.ntmps14
        go_wp2_with fail
        refine (H1.out _).mono ?_
        rintro e w2 ⟨rfl, rfl⟩
        go_wp2_with fail
        refine (H2.out _).mono ?_
        rintro e w2 ⟨rfl, rfl⟩
        go_wp2_with fail
        refine (H3.out _).mono ?_
        rintro e w2 ⟨rfl, rfl⟩
        go_wp2
        go_ret
        exact ⟨rfl, Fr.refl _ _⟩
    · clear H4 hin ht
      go_enter Tryd.func14, Tryd.ntmps14
      go_wp2_with fail
      refine (H1.out _).mono ?_
      rintro e w2 ⟨rfl, rfl⟩
      go_wp2_with fail
      refine (H2.out _).mono ?_
      rintro e w2 ⟨rfl, rfl⟩
      go_wp2
      go_ret
      exact ⟨rfl, Fr.refl _ _⟩
  · clear H4 hin ht
    go_enter Tryd.func14, Tryd.ntmps14
    go_wp2_with fail
    refine (H1.out _).mono ?_
    rintro e w2 ⟨rfl, rfl⟩
    go_wp2
    go_ret
    exact ⟨rfl, Fr.refl _ _⟩

set_option maxHeartbeats 1000000 in
theorem refshow_any (x : Nat) (hx : x < 18446744073709551616) (w : World) : Calls Tryd.prog 15 #[.float .f64 x] w fun e w' => e = .returned (.string (showB x)) ∧ Fr No w w' := by
  have H2 := Lib.hid fun W => isInf1_any x W
  have H3 := Lib.hid fun W => isInfM_any x hx W
  have h1 : (FloatKind.f64.format.order x x != some .eq) = nanB x := rfl
  have o1 := run_op Tryd.prog 22 .mul x 4652007308841189376 (.inr (.inr (.inl rfl))) w
  have o2 := opR_rnd (fv_op .mul x 4652007308841189376 w)
  have o3 := fw_fr .mul x 4652007308841189376 (Fr.refl No w)
  rw [show (floatBits .mul .f64 x 4652007308841189376).bind rndO = thO x from rfl] at o2
  generalize fv .mul x 4652007308841189376 w = r at *
  generalize fw .mul x 4652007308841189376 w = W1 at *
  have H4 := Lib.hid fun W => refround_any r W
  rw [o2] at H4
  unfold showB
  have hin := fun n (h : thO x = some n) => thO_in h
  generalize nanB x = b1 at *
  generalize infS x false = b2 at *
  generalize infS x true = b3 at *
  generalize thO x = o at *
  have O3 := Lib.hid o3
  clear o2 o3 hx
  cases b1
  · cases b2
    · cases b3
      · cases o with
        | none =>
          have H5 : Hid (∀ W, Calls Tryd.prog 23 #[.float .f64 r] W fun e w' => e = .returned (.tuple #[.int .i64 0, .bool false]) ∧ w' = W) := H4
          clear H4 hin
          go_enter Tryd.func15, Tryd.ntmps15
          go_wp2_with fail
          refine (H2.out _).mono ?_
          rintro e w2 ⟨rfl, rfl⟩
          go_wp2_with fail
          refine (H3.out _).mono ?_
          rintro e w2 ⟨rfl, rfl⟩
          go_wp2_with fail
          refine (H5.out _).mono ?_
          rintro e w3 ⟨rfl, rfl⟩
          go_wp2
          go_ret
          exact ⟨rfl, O3.out⟩
        | some n =>
          have H5 : Hid (∀ W, Calls Tryd.prog 23 #[.float .f64 r] W fun e w' => e = .returned (.tuple #[.int .i64 n, .bool true]) ∧ w' = W) := H4
          have HN := Lib.hid (hin n rfl)
          clear H4 hin
          go_enter Tryd.func15, Tryd.ntmps15
          go_wp2_with fail
          refine (H2.out _).mono ?_
          rintro e w2 ⟨rfl, rfl⟩
          go_wp2_with fail
          refine (H3.out _).mono ?_
          rintro e w2 ⟨rfl, rfl⟩
          go_wp2_with fail
          refine (H5.out _).mono ?_
          rintro e w3 ⟨rfl, rfl⟩
          go_wp2_with fail
          refine (reftext_any n 3 w3 HN.out).mono ?_
          rintro e w4 ⟨rfl, rfl⟩
          go_wp2
          go_ret
          exact ⟨rfl, O3.out⟩
      · clear H4 hin
        go_enter Tryd.func15, Tryd.ntmps15
        go_wp2_with fail
        refine (H2.out _).mono ?_
        rintro e w2 ⟨rfl, rfl⟩
        go_wp2_with fail
        refine (H3.out _).mono ?_
        rintro e w2 ⟨rfl, rfl⟩
        go_wp2
        go_ret
        exact ⟨rfl, Fr.refl _ _⟩
    · clear H4 hin
      go_enter Tryd.func15, Tryd.ntmps15
      go_wp2_with fail
      refine (H2.out _).mono ?_
      rintro e w2 ⟨rfl, rfl⟩
      go_wp2
      go_ret
      exact ⟨rfl, Fr.refl _ _⟩
  · clear H4 hin
    go_enter Tryd.func15, Tryd.ntmps15
    go_wp2
    go_ret
    exact ⟨rfl, Fr.refl _ _⟩

end Go.Proofs.YtdmjnheohjegdaaDoor
