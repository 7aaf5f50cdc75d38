/- slices.Concat over ints. -/
import Derived.Test.YtcjofakhefpfdaaKnI
import Derived.Test.YtcjofakhefpfdaaAppMake
import Derived.Deep.DrawnRows
namespace Go.Proofs.Ytcjofakhefpfdaa
open Go.RowKit Go.My Go.My.Kn Go.Maps
set_option linter.unusedSimpArgs false
set_option linter.unusedVariables false
attribute [local go_sem ↓] Go.wp_at_zero Go.wp_at_succ

set_option maxRecDepth 100000 in
set_option maxHeartbeats 1000000 in
theorem growI_any (n : Nat) (w : World) (hn : n ≤ 1000) :
    Calls Try.prog 31 #[.slice none 0 0, .int .i64 n] w (RetOwn w 3 1 none 0 []) := by
  by_cases h0 : 0 < n
  · have hX : Hid (n ≤ maxLen ∧ n * 8 ≤ 140737488355328) := by
      refine ⟨?_, ?_⟩ <;> (try simp only [maxLen]) <;> omega
    go_enter Try.func31, Try.ntmps31
    go_wp2_with (at_builtin; refine wpList_app_make _ rfl (.tmp 20) (.tmp 21) 26 3 rfl elI Try.underlying3 n h0 rfl rfl hX.out.1 hX.out.2 ?_; intro cap w1 xs hown hfr hc1 hc2)
    go_ret
    exact ⟨_, rfl, hown.zero, hfr.mono (fun _ _ h => False.elim h), .inr ⟨_, rfl, Nat.le_refl _⟩⟩
  · obtain rfl : n = 0 := by omega
    go_enter Try.func31, Try.ntmps31
    go_wp2
    go_ret
    exact ⟨_, rfl, Own.nil _ _ _, Fr.refl _ _, .inl rfl⟩

/-- all lists, one behind the other -/
def flatI (Ls : List (List Int)) : List Int := Ls.flatten
theorem flatI_take {Ls : List (List Int)} {k : Nat} (h : k < Ls.length) : flatI (Ls.take (k + 1)) = flatI (Ls.take k) ++ Ls[k] := by
  unfold flatI
  rw [List.take_succ_eq_append_getElem h, List.flatten_append]
  simp
theorem flatI_le {Ls : List (List Int)} (k : Nat) : (flatI (Ls.take k)).length ≤ (flatI Ls).length := by
  have e : Ls = Ls.take k ++ Ls.drop k := (List.take_append_drop k Ls).symm
  have : flatI Ls = flatI (Ls.take k) ++ flatI (Ls.drop k) := by unfold flatI; rw [← List.flatten_append, ← e]
  rw [this, List.length_append]
  omega
def CcRelI (w : World) (Ls : List (List Int)) (sz iv : Value) (wr : World) : Prop := ∃ k : Nat, k ≤ Ls.length ∧ iv = .int .i64 k ∧ sz = .int .i64 ((flatI (Ls.take k)).length : Nat) ∧ wr = w
def CdRelI (w : World) (Ls : List (List Int)) (lv iv : Value) (wr : World) : Prop := ∃ k : Nat, k ≤ Ls.length ∧ iv = .int .i64 k ∧ Own wr 3 1 lv (flatI (Ls.take k)).length (is_ (flatI (Ls.take k))) ∧ Fr No w wr ∧ Newer w.heap.size none lv.ownBlock

set_option maxRecDepth 100000 in
set_option maxHeartbeats 1000000 in
theorem concatI_any (F : Nat → Prop) (A : Option Addr) (c : Nat) (Ls : List (List Int)) (w : World) (h : RdG w F A Ls) (hl : Ls.length ≤ 100) (hL : (flatI Ls).length ≤ 1000) :
    Calls Try.prog 25 #[.slice A Ls.length c] w (RetOwn w 3 1 none (flatI Ls).length (is_ (flatI Ls))) := by
  have HH := Lib.hid h
  have HLE : Hid (∀ k, (flatI (Ls.take k)).length ≤ (flatI Ls).length) := fun k => flatI_le k
  clear h
  go_enter Try.func25, Try.ntmps25
  go_wp2
  go_loopw [3, 11] (fun sz iv wr => CcRelI w Ls sz iv wr) (fun _ iv _ => Ls.length - (intOf iv).toNat)
  case atStart => exact ⟨0, Nat.zero_le _, rfl, rfl, rfl⟩
  case round =>
    obtain ⟨k, hk, rfl, rfl, rfl⟩ := hrel
    by_cases hlt : k < Ls.length
    · obtain ⟨ad, A', c', rfl, q0, _⟩ := HH.out.at_ k hlt
      have h1 := HLE.out (k + 1)
      have E : Hid ((flatI (Ls.take (k + 1))).length = (flatI (Ls.take k)).length + Ls[k].length) := by show _ = _; rw [flatI_take hlt, List.length_append]
      rw [E.out] at h1
      generalize Ls[k].length = m at *
      generalize (flatI (Ls.take k)).length = n at *
      have hn0 : ¬ ((n : Int) + (m : Int)) < 0 := by omega
      go_wp2
      go_roundw
      case rel => exact ⟨k + 1, by omega, by go_num, by rw [E.out]; go_num, rfl⟩
      case measure => simp [intOf]; omega
    · obtain rfl : k = Ls.length := by omega
      rw [List.take_length]
      obtain ⟨wo, rfl⟩ : ∃ wo : World, wo = wr := ⟨_, rfl⟩
      have HG := Lib.hid (growI_any (flatI Ls).length wo hL)
      go_wp2_with fail
      refine HG.out.mono ?_
      rintro e w1 ⟨v1, rfl, ho1, hf1', hn1⟩
      have hf1 := fr_at_none hf1'
      have HO1 := Lib.hid ho1
      have HF1 := Lib.hid hf1
      have HN1 := Lib.hid hn1
      clear ho1 hf1 hf1' hn1 HG
      go_wp2
      go_loopw [6, 27] (fun lv iv wx => CdRelI wo Ls lv iv wx) (fun _ iv _ => Ls.length - (intOf iv).toNat)
      case atStart => exact ⟨0, Nat.zero_le _, rfl, HO1.out, HF1.out, HN1.out⟩
      case round =>
        obtain ⟨k, hk, rfl, hown, hfr, hnew⟩ := hrel
        by_cases hlt : k < Ls.length
        · obtain ⟨ad, A', c', rfl, q0, hr, _⟩ := (HH.out.no hfr).at_ k hlt
          have h1 := HLE.out (k + 1)
          have E : Hid ((flatI (Ls.take (k + 1))).length = (flatI (Ls.take k)).length + Ls[k].length) := by show _ = _; rw [flatI_take hlt, List.length_append]
          have E2 : Hid (is_ (flatI (Ls.take (k + 1))) = is_ (flatI (Ls.take k)) ++ is_ Ls[k]) := by show _ = _; rw [flatI_take hlt, is_append]
          have HS : Hid (Src Try.prog wr 1 26 (.slice A' Ls[k].length c') Ls[k].length (is_ Ls[k])) := Src.of_rd hr (is_one _) Try.underlying26
          rw [E.out] at h1
          have hX : Hid ((flatI (Ls.take k)).length + Ls[k].length ≤ maxLen ∧ ((flatI (Ls.take k)).length + Ls[k].length) * 8 ≤ 140737488355328) := by
            refine ⟨?_, ?_⟩ <;> (try simp only [maxLen]) <;> omega
          have HOWN := Lib.hid hown
          have HFR := Lib.hid hfr
          have HNEW := Lib.hid hnew
          clear hown hfr hnew hr
          go_wp2_with (at_builtin; refine wpList_app _ rfl (.tmp 31) (.tmp 32) 26 26 rfl elI HOWN.out rfl HS.out rfl hX.out.1 hX.out.2 ?_; intro v1 w3 hown3 hfr3 hnew3)
          go_roundw
          case rel =>
            refine ⟨k + 1, by omega, by go_num, ?_, fr_no HFR.out HNEW.out hfr3, HNEW.out.trans (Newer.of hnew3) HFR.out.size⟩
            rw [E.out, E2.out]
            exact hown3
          case measure => simp [intOf]; omega
        · obtain rfl : k = Ls.length := by omega
          rw [List.take_length] at hown
          go_wp2
          go_ret
          exact ⟨_, rfl, hown, hfr.mono (fun _ _ h => False.elim h), hnew⟩
end Go.Proofs.Ytcjofakhefpfdaa
