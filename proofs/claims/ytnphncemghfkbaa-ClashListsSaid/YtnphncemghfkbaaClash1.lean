/- A row of texts searched: slices.IndexFunc and ContainsFunc with a closure, Index and Contains. -/
import Derived.Test.YtnphncemghfkbaaStrS
import Derived.Test.YtnphncemghfkbaaOrd1
import Derived.Sort.Walk0
namespace Go.Proofs.Ytnphncemghfkbaa
open Go.RowKit Go.My Go.Maps
set_option linter.unusedSimpArgs false
set_option linter.unusedVariables false
attribute [local go_sem ↓] Go.wp_at_zero Go.wp_at_succ

theorem tsAt {w : World} {F : Nat → Prop} {A : Option Addr} {n : Nat} {L : List (List UInt8)} (h : Rd w F 1 A n (ts L)) (k : Nat) (hk : k < n) : ∃ ad, ∃ hl : k < L.length, A = some ad ∧ F ad.block ∧ w.cell? (ad.add k) = some (.string ⟨L[k].toArray⟩) := by
  obtain ⟨ad, rfl, hF, hc⟩ := h.2 (by omega)
  have hl : k < L.length := by have := h.1; rw [ts_length] at this; omega
  exact ⟨ad, hl, rfl, hF, hc k _ (ts_get L k hl)⟩
/-- the first text for which q holds -/
def idxS (q : List UInt8 → Bool) (L : List (List UInt8)) : Int := match L.findIdx? q with | some i => (i : Int) | none => -1
def IxSRel (w : World) (q : List UInt8 → Bool) (L : List (List UInt8)) (iv : Value) (wr : World) : Prop := ∃ k : Nat, k ≤ L.length ∧ iv = .int .i64 k ∧ (∀ g ∈ L.take k, q g = false) ∧ Fr No w wr
theorem indexS_any (F : Nat → Prop) (A : Option Addr) (c : Nat) (L : List (List UInt8)) (f : FuncId) (bs : Array Value) (q : List UInt8 → Bool) (w : World) (hr : Rd w F 1 A L.length (ts L)) (hL : L.length ≤ 1000000)
    (hf : ∀ args W, (callFunc f args).run Try.prog W = .ok (.enter f args) W)
    (hc : ∀ W, Fr No w W → ∀ g ∈ L, Calls Try.prog f (#[.string ⟨g.toArray⟩] ++ bs) W fun e w' => e = .returned (.bool (q g)) ∧ Fr No W w') :
    Calls Try.prog 48 #[.slice A L.length c, .func (.func f) #[] bs] w fun e w' => e = .returned (.int .i64 (idxS q L)) ∧ Fr No w w' := by
  have HR := Lib.hid hr
  have HC := Lib.hid hc
  clear hr hc
  go_enter Try.func48, Try.ntmps48
  go_wp2
  go_loopw [8] (fun iv wr => IxSRel w q L iv wr) (fun iv _ => L.length - (intOf iv).toNat)
  case atStart => exact ⟨0, Nat.zero_le _, rfl, fun g hg => by simp at hg, Fr.refl _ _⟩
  case round =>
    obtain ⟨k, hk, rfl, hall, hfr⟩ := hrel
    by_cases hlt : k < L.length
    · obtain ⟨ad, hl, rfl, _, q0⟩ := tsAt (HR.out.fr (by omega) hfr fun _ _ _ h => h) k hlt
      have HCK := Lib.hid fun W hW => HC.out W hW L[k] (List.getElem_mem hlt)
      have HFR := Lib.hid hfr
      have hT : q L[k] = true → idxS q L = (k : Int) := fun h => by
        unfold idxS
        rw [List.findIdx?_eq_some_iff_getElem.2 ⟨hlt, h, fun j hj => by
          have := hall L[j] (List.mem_take_iff_getElem.2 ⟨j, by omega, rfl⟩)
          simp [this]⟩]
      have hN : q L[k] = false → ∀ g ∈ L.take (k + 1), q g = false := fun h g hg => by
        rw [List.take_succ_eq_append_getElem hlt, List.mem_append] at hg
        rcases hg with hg | hg
        · exact hall g hg
        · rw [List.mem_singleton.1 hg]; exact h
      have HT := Lib.hid hT
      have HN := Lib.hid hN
      generalize L[k] = g at *
      clear hall hfr hT hN
      cases hb : q g
      · rw [hb] at HCK
        have HN2 := Lib.hid (HN.out hb)
        clear HT HN hb
        go_wp2_with fail
        refine (HCK.out _ HFR.out).mono ?_
        rintro e w1 ⟨rfl, hf1⟩
        clear q0
        go_wp2
        go_roundw
        case rel => exact ⟨k + 1, by omega, by go_num, HN2.out, HFR.out.trans hf1⟩
        case measure => simp [intOf]; omega
      · rw [hb] at HCK
        have HT2 := Lib.hid (HT.out hb)
        clear HT HN hb
        go_wp2_with fail
        refine (HCK.out _ HFR.out).mono ?_
        rintro e w1 ⟨rfl, hf1⟩
        clear q0
        go_wp2
        go_ret
        exact ⟨by rw [HT2.out]; rfl, HFR.out.trans hf1⟩
    · obtain rfl : k = L.length := by omega
      have HF : Hid (idxS q L = -1) := by
        show _ = _
        unfold idxS
        rw [List.take_length] at hall
        rw [List.findIdx?_eq_none_iff.2 hall]
      go_wp2
      go_ret
      exact ⟨by rw [HF.out]; rfl, hfr⟩
theorem containsS_any (F : Nat → Prop) (A : Option Addr) (c : Nat) (L : List (List UInt8)) (f : FuncId) (bs : Array Value) (q : List UInt8 → Bool) (w : World) (hr : Rd w F 1 A L.length (ts L)) (hL : L.length ≤ 1000000)
    (hf : ∀ args W, (callFunc f args).run Try.prog W = .ok (.enter f args) W)
    (hc : ∀ W, Fr No w W → ∀ g ∈ L, Calls Try.prog f (#[.string ⟨g.toArray⟩] ++ bs) W fun e w' => e = .returned (.bool (q g)) ∧ Fr No W w') :
    Calls Try.prog 35 #[.slice A L.length c, .func (.func f) #[] bs] w fun e w' => e = .returned (.bool (L.any q)) ∧ Fr No w w' := by
  have HX := Lib.hid (indexS_any F A c L f bs q w hr hL hf hc)
  have HA : Hid (decide (0 ≤ idxS q L) = L.any q) := by
    show _ = _
    unfold idxS
    cases h : L.findIdx? q with
    | none =>
      rw [List.findIdx?_eq_none_iff] at h
      simp only
      rw [List.any_eq_false.2 (fun x hx => by rw [h x hx]; decide)]
      rfl
    | some i =>
      obtain ⟨hlt, hi, _⟩ := List.findIdx?_eq_some_iff_getElem.1 h
      simp only
      rw [List.any_eq_true.2 ⟨L[i], List.getElem_mem hlt, hi⟩]
      exact decide_eq_true (by omega)
  clear hr hf hc
  go_enter Try.func35, Try.ntmps35
  go_wp2_with fail
  refine HX.out.mono ?_
  rintro e w1 ⟨rfl, hf1⟩
  go_wp2
  go_ret
  exact ⟨by rw [← HA.out]; rfl, hf1⟩
end Go.Proofs.Ytnphncemghfkbaa
