/- The document's SameInts; has. -/
import Derived.Test.YtcjofakhefpfdaaKnT
namespace Go.Proofs.Ytcjofakhefpfdaa
open Go.RowKit Go.My Go.Maps
set_option linter.unusedSimpArgs false
set_option linter.unusedVariables false
attribute [local go_sem ↓] Go.wp_at_zero Go.wp_at_succ

theorem _root_.Go.My.Rd.no_ {w w' : World} {F : Nat → Prop} {A : Option Addr} {n : Nat} {xs : List Value} (h : Rd w F 1 A n xs) (hf : Fr No w w') : Rd w' F 1 A n xs := h.fr (by omega) hf fun _ _ _ h => h
theorem num_lt {j j1 m : Nat} (h : j < m) (hw : j1 = j + 1) : m - j1 < m - j := by omega
def SmR (w : World) (La Lb : List Int) (iv : Value) (wr : World) : Prop := ∃ i : Nat, iv = .int .i64 (i : Int) ∧ i ≤ La.length ∧ (∀ k, k < i → La[k]? = Lb[k]?) ∧ Fr No w wr
set_option maxHeartbeats 2000000 in
theorem sameI_any (w : World) (F1 F2 : Nat → Prop) (A B : Option Addr) (c d : Nat) (La Lb : List Int) (hl : Rd w F1 1 A La.length (is_ La)) (hr : Rd w F2 1 B Lb.length (is_ Lb)) (hlen : La.length ≤ 1000000) :
    Calls Try.prog 13 #[.slice A La.length c, .slice B Lb.length d] w fun e w' => e = .returned (.bool (decide (La = Lb))) ∧ Fr No w w' := by
  obtain ⟨b, hb⟩ : ∃ b, b = decide (La = Lb) := ⟨_, rfl⟩
  rw [← hb]
  have HB := Lib.hid hb
  have HL := Lib.hid hl
  have HR := Lib.hid hr
  clear hb hl hr
  by_cases hle : La.length = Lb.length
  · have HLE := Lib.hid hle
    have hle2 : ((La.length : Int) != (Lb.length : Int)) = false := by rw [hle]; simp
    go_enter Try.func13, Try.ntmps13
    go_wp2
    go_loopw [5] (fun iv wr => SmR w La Lb iv wr) (fun iv _ => La.length - (intOf iv).toNat)
    case atStart => exact ⟨0, rfl, Nat.zero_le _, fun k hk => absurd hk (Nat.not_lt_zero _), Fr.refl _ _⟩
    case round =>
      obtain ⟨i, rfl, hi, hs, hf⟩ := hrel
      have HS := Lib.hid hs
      have HF := Lib.hid hf
      clear hs hf
      by_cases hil : i < La.length
      · obtain ⟨ad, u, rfl, _, hu, hc⟩ := (HL.out.no_ HF.out).at_ hil
        obtain ⟨ad2, u2, rfl, _, hu2, hc2⟩ := (HR.out.no_ HF.out).at_ (k := i) (by rw [← HLE.out]; exact hil)
        rw [is_at _ i hil] at hu
        injection hu with hu
        subst hu
        have hib : i < Lb.length := by rw [← HLE.out]; exact hil
        rw [is_at _ i hib] at hu2
        injection hu2 with hu2
        subst hu2
        have hilI : (i : Int) < (La.length : Int) := by omega
        have hibI : (i : Int) < (Lb.length : Int) := by omega
        obtain ⟨i1, hi1⟩ : ∃ i1, i1 = i + 1 := ⟨_, rfl⟩
        have hwi : wrap64 ((i : Int) + 1) = (i1 : Int) := by unfold wrap64; omega
        have HI1 := Lib.hid hi1
        have HX : Hid (La[i]? = some La[i] ∧ Lb[i]? = some Lb[i]) := Lib.hid ⟨List.getElem?_eq_getElem hil, List.getElem?_eq_getElem hib⟩
        generalize La[i] = x at *
        generalize Lb[i] = y at *
        clear hi1 hib hle
        by_cases hxy : x = y
        · have hxI : (x != y) = false := by rw [hxy]; simp
          have HXY := Lib.hid hxy
          clear hxy
          go_wp2
          go_quiet (fail)
          go_wp2
          go_roundw
          case measure =>
            first
              | (show La.length - (intOf (Value.int .i64 (wrap64 ((i : Int) + 1)))).toNat < La.length - (intOf (Value.int .i64 (i : Int))).toNat; rw [hwi]; exact num_lt hil HI1.out)
              | (show La.length - (intOf (Value.int .i64 ((i : Int) + 1))).toNat < La.length - (intOf (Value.int .i64 (i : Int))).toNat; exact num_lt hil rfl)
          case rel =>
            refine ⟨i1, by first | rw [hwi] | (rw [HI1.out]; rfl), by rw [HI1.out]; exact hil, fun k hk => ?_, HF.out.trans ((Fr.refl _ _).drewN _)⟩
            rcases Nat.lt_succ_iff_lt_or_eq.1 (HI1.out ▸ hk) with h | rfl
            · exact HS.out k h
            · rw [HX.out.1, HX.out.2, HXY.out]
        · have hxI : (x != y) = true := by simpa using hxy
          have HXY := Lib.hid hxy
          clear hxy
          go_wp2
          go_quiet (fail)
          go_wp2
          go_ret
          have e : b = false := by
            rw [HB.out]
            refine decide_eq_false fun h => HXY.out ?_
            have h1 := HX.out
            rw [h] at h1
            have h2 := h1.1.symm.trans h1.2
            injection h2
          rw [e]
          exact ⟨rfl, HF.out.trans ((Fr.refl _ _).drewN _)⟩
      · have hilI : ¬ (i : Int) < (La.length : Int) := by omega
        have hie : i = La.length := by omega
        clear hle
        go_wp2
        go_ret
        have e : b = true := by
          rw [HB.out]
          refine decide_eq_true (List.ext_getElem? fun k => ?_)
          by_cases hk : k < La.length
          · exact HS.out k (by omega)
          · rw [List.getElem?_eq_none (by omega), List.getElem?_eq_none (by have := HLE.out; omega)]
        rw [e]
        exact ⟨rfl, HF.out⟩
  · have hle2 : ((La.length : Int) != (Lb.length : Int)) = true := by simp; omega
    have HLE := Lib.hid hle
    clear hle
    go_enter Try.func13, Try.ntmps13
    go_wp2
    go_ret
    have e : b = false := by
      rw [HB.out]
      exact decide_eq_false fun h => HLE.out (by rw [h])
    rw [e]
    exact ⟨rfl, Fr.refl _ _⟩
end Go.Proofs.Ytcjofakhefpfdaa
