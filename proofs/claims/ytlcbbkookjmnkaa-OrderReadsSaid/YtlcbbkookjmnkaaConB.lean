/- slices.Concat over bytes; lists of lists of bytes in memory. -/
import Derived.Test.YtlcbbkookjmnkaaPack
import Derived.Test.YtlcbbkookjmnkaaAppMake
import Derived.Deep.DrawnRows
namespace Go.Proofs.Ytlcbbkookjmnkaa
open Go.RowKit Go.My Go.Maps
set_option linter.unusedSimpArgs false
set_option linter.unusedVariables false
attribute [local go_sem ↓] Go.wp_at_zero Go.wp_at_succ

def AnyB : Nat → Prop := fun _ => True
/-- a list of lists of bytes, in memory -/
def LsB (w : World) (A : Option Addr) (Ls : List (List UInt8)) : Prop :=
  ∃ cells, Rd w AnyB 1 A Ls.length cells ∧ ∀ i (h : i < Ls.length), ∃ A' c', cells[i]? = some (.slice A' Ls[i].length c') ∧ Rd w AnyB 1 A' Ls[i].length (bs Ls[i])
theorem LsB.at_ {w : World} {A : Option Addr} {Ls : List (List UInt8)} (h : LsB w A Ls) (i : Nat) (hi : i < Ls.length) : ∃ ad A' c', A = some ad ∧ w.cell? (ad.add i) = some (.slice A' Ls[i].length c') ∧ Rd w AnyB 1 A' Ls[i].length (bs Ls[i]) := by
  obtain ⟨cells, h1, h2⟩ := h
  obtain ⟨A', c', h3, h4⟩ := h2 i hi
  obtain ⟨ad, u, rfl, _, h5, h6⟩ := h1.at_ hi
  rw [h3] at h5
  injection h5 with h5
  subst h5
  exact ⟨ad, A', c', rfl, h6, h4⟩
theorem LsB.fr {w w' : World} {A : Option Addr} {Ls : List (List UInt8)} (h : LsB w A Ls) (hf : Fr No w w') : LsB w' A Ls := by
  obtain ⟨cells, h1, h2⟩ := h
  refine ⟨cells, h1.fr (by omega) hf (fun _ _ _ h => h), fun i hi => ?_⟩
  obtain ⟨A', c', h3, h4⟩ := h2 i hi
  exact ⟨A', c', h3, h4.fr (by omega) hf (fun _ _ _ h => h)⟩

set_option maxRecDepth 100000 in
set_option maxHeartbeats 1000000 in
theorem growB_any (n : Nat) (w : World) (hn : n ≤ 1000) :
    Calls Try.prog 60 #[.slice none 0 0, .int .i64 n] w (RetOwn w 5 1 none 0 []) := by
  by_cases h0 : 0 < n
  · have hX : Hid (n ≤ maxLen ∧ n * 1 ≤ 140737488355328) := by
      refine ⟨?_, ?_⟩ <;> (try simp only [maxLen]) <;> omega
    go_enter Try.func60, Try.ntmps60
    go_wp2_with (at_builtin; refine wpList_app_make _ rfl (.tmp 20) (.tmp 21) 32 3 rfl elB Try.underlying3 n h0 rfl rfl hX.out.1 hX.out.2 ?_; intro cap w1 xs hown hfr hc1 hc2)
    go_ret
    exact ⟨_, rfl, hown.zero, hfr.mono (fun _ _ h => False.elim h), .inr ⟨_, rfl, Nat.le_refl _⟩⟩
  · obtain rfl : n = 0 := by omega
    go_enter Try.func60, Try.ntmps60
    go_wp2
    go_ret
    exact ⟨_, rfl, Own.nil _ _ _, Fr.refl _ _, .inl rfl⟩

/-- all lists, one behind the other -/
def flatB (Ls : List (List UInt8)) : List UInt8 := Ls.flatten
theorem flatB_take {Ls : List (List UInt8)} {k : Nat} (h : k < Ls.length) : flatB (Ls.take (k + 1)) = flatB (Ls.take k) ++ Ls[k] := by
  unfold flatB
  rw [List.take_succ_eq_append_getElem h, List.flatten_append]
  simp
theorem flatB_le {Ls : List (List UInt8)} (k : Nat) : (flatB (Ls.take k)).length ≤ (flatB Ls).length := by
  have e : Ls = Ls.take k ++ Ls.drop k := (List.take_append_drop k Ls).symm
  have : flatB Ls = flatB (Ls.take k) ++ flatB (Ls.drop k) := by unfold flatB; rw [← List.flatten_append, ← e]
  rw [this, List.length_append]
  omega
def CcRelB (w : World) (Ls : List (List UInt8)) (sz iv : Value) (wr : World) : Prop := ∃ k : Nat, k ≤ Ls.length ∧ iv = .int .i64 k ∧ sz = .int .i64 ((flatB (Ls.take k)).length : Nat) ∧ wr = w
def CdRelB (w : World) (Ls : List (List UInt8)) (lv iv : Value) (wr : World) : Prop := ∃ k : Nat, k ≤ Ls.length ∧ iv = .int .i64 k ∧ Own wr 5 1 lv (flatB (Ls.take k)).length (bs (flatB (Ls.take k))) ∧ Fr No w wr ∧ Newer w.heap.size none lv.ownBlock

set_option maxRecDepth 100000 in
set_option maxHeartbeats 1000000 in
theorem concatB_any (A : Option Addr) (c : Nat) (Ls : List (List UInt8)) (w : World) (h : LsB w A Ls) (hl : Ls.length ≤ 100) (hL : (flatB Ls).length ≤ 1000) :
    Calls Try.prog 32 #[.slice A Ls.length c] w (RetOwn w 5 1 none (flatB Ls).length (bs (flatB Ls))) := by
  have HH := Lib.hid h
  have HLE : Hid (∀ k, (flatB (Ls.take k)).length ≤ (flatB Ls).length) := fun k => flatB_le k
  clear h
  go_enter Try.func32, Try.ntmps32
  go_wp2
  go_loopw [3, 11] (fun sz iv wr => CcRelB w Ls sz iv wr) (fun _ iv _ => Ls.length - (intOf iv).toNat)
  case atStart => exact ⟨0, Nat.zero_le _, rfl, rfl, rfl⟩
  case round =>
    obtain ⟨k, hk, rfl, rfl, rfl⟩ := hrel
    by_cases hlt : k < Ls.length
    · obtain ⟨ad, A', c', rfl, q0, _⟩ := HH.out.at_ k hlt
      have h1 := HLE.out (k + 1)
      have E : Hid ((flatB (Ls.take (k + 1))).length = (flatB (Ls.take k)).length + Ls[k].length) := by show _ = _; rw [flatB_take hlt, List.length_append]
      rw [E.out] at h1
      generalize Ls[k].length = m at *
      generalize (flatB (Ls.take k)).length = n at *
      have hn0 : ¬ ((n : Int) + (m : Int)) < 0 := by omega
      go_wp2
      go_roundw
      case rel => exact ⟨k + 1, by omega, by go_num, by rw [E.out]; go_num, rfl⟩
      case measure => simp [intOf]; omega
    · obtain rfl : k = Ls.length := by omega
      rw [List.take_length]
      obtain ⟨wo, rfl⟩ : ∃ wo : World, wo = wr := ⟨_, rfl⟩
      have HG := Lib.hid (growB_any (flatB Ls).length wo hL)
      go_wp2_with fail
      refine HG.out.mono ?_
      rintro e w1 ⟨v1, rfl, ho1, hf1', hn1⟩
      have hf1 := fr_at_none hf1'
      have HO1 := Lib.hid ho1
      have HF1 := Lib.hid hf1
      have HN1 := Lib.hid hn1
      clear ho1 hf1 hf1' hn1 HG
      go_wp2
      go_loopw [6, 27] (fun lv iv wx => CdRelB wo Ls lv iv wx) (fun _ iv _ => Ls.length - (intOf iv).toNat)
      case atStart => exact ⟨0, Nat.zero_le _, rfl, HO1.out, HF1.out, HN1.out⟩
      case round =>
        obtain ⟨k, hk, rfl, hown, hfr, hnew⟩ := hrel
        by_cases hlt : k < Ls.length
        · obtain ⟨ad, A', c', rfl, q0, hr⟩ := (HH.out.fr hfr).at_ k hlt
          have h1 := HLE.out (k + 1)
          have E : Hid ((flatB (Ls.take (k + 1))).length = (flatB (Ls.take k)).length + Ls[k].length) := by show _ = _; rw [flatB_take hlt, List.length_append]
          have E2 : Hid (bs (flatB (Ls.take (k + 1))) = bs (flatB (Ls.take k)) ++ bs Ls[k]) := by show _ = _; rw [flatB_take hlt, bs_append]
          have HS : Hid (Src Try.prog wr 1 32 (.slice A' Ls[k].length c') Ls[k].length (bs Ls[k])) := Src.of_rd hr (bs_one _) Try.underlying32
          rw [E.out] at h1
          have hX : Hid ((flatB (Ls.take k)).length + Ls[k].length ≤ maxLen ∧ ((flatB (Ls.take k)).length + Ls[k].length) * 1 ≤ 140737488355328) := by
            refine ⟨?_, ?_⟩ <;> (try simp only [maxLen]) <;> omega
          have HOWN := Lib.hid hown
          have HFR := Lib.hid hfr
          have HNEW := Lib.hid hnew
          clear hown hfr hnew hr
          go_wp2_with (at_builtin; refine wpList_app _ rfl (.tmp 31) (.tmp 32) 32 32 rfl elB HOWN.out rfl HS.out rfl hX.out.1 hX.out.2 ?_; intro v1 w3 hown3 hfr3 hnew3)
          go_roundw
          case rel =>
            refine ⟨k + 1, by omega, by go_num, ?_, fr_no HFR.out HNEW.out hfr3, HNEW.out.trans (Newer.of hnew3) HFR.out.size⟩
            rw [E.out, E2.out]
            exact hown3
          case measure => simp [intOf]; omega
        · obtain rfl : k = Ls.length := by omega
          rw [List.take_length] at hown
          go_wp2
          go_ret
          exact ⟨_, rfl, hown, hfr.mono (fun _ _ h => False.elim h), hnew⟩
end Go.Proofs.Ytlcbbkookjmnkaa
