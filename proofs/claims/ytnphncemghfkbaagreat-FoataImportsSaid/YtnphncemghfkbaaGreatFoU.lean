/- The document's Lay and Same of steps. -/
import Derived.Test.YtnphncemghfkbaaGreatFoR
namespace Go.Proofs.YtnphncemghfkbaaGreat
open Go.RowKit Go.My Go.Maps Go.WideMaps
set_option linter.unusedSimpArgs false
set_option linter.unusedVariables false
attribute [local go_sem ↓] Go.wp_at_zero Go.wp_at_succ

set_option maxRecDepth 100000 in
set_option maxHeartbeats 1000000 in
theorem reflay_any (A : Option Addr) (c : Nat) (S : List (List Od)) (w : World) (h : StS w A S) (hl : S.length ≤ 100000) (hL : (flatS S).length ≤ 100000) :
    Calls Tryz.prog 20 #[.slice A S.length c] w (CatRet w S) := by
  have HH := Lib.hid h
  have HLE : Hid (∀ k, (flatS (S.take k)).length ≤ (flatS S).length) := fun k => flatS_le k
  clear h
  go_enter Tryz.func20, Tryz.ntmps20
  go_wp2
  go_loopw [3, 4] (fun lv iv wx => CdRelO w S lv iv wx) (fun _ iv _ => S.length - (intOf iv).toNat)
  case atStart => exact ⟨0, Nat.zero_le _, rfl, ⟨[], Own.nil _ _ _, Each.nilO w⟩, Fr.refl _ _, .inl rfl⟩
  case round =>
    obtain ⟨k, hk, rfl, hown, hfr, hnew⟩ := hrel
    by_cases hlt : k < S.length
    · obtain ⟨ad, A', c', rfl, q0, _⟩ := (HH.out.no hfr).at_ k hlt
      obtain ⟨ad0, A0, c0, e0, q00, hr⟩ := HH.out.at_ k hlt
      injection e0 with e0
      subst e0
      have q01 := hfr.cell_some q00 (fun h => h)
      rw [q0] at q01
      injection q01 with q01
      injection q01 with q01 _ q02
      subst q01 q02
      obtain ⟨⟨cells, hrd, hE⟩, hrn, hrc, hrs⟩ := hr
      have h1 := HLE.out (k + 1)
      have E : Hid ((flatS (S.take (k + 1))).length = (flatS (S.take k)).length + S[k].length) := by show _ = _; rw [flatS_take hlt, List.length_append]
      have E2 : Hid (flatS (S.take (k + 1)) = flatS (S.take k) ++ S[k]) := flatS_take hlt
      have HS : Hid (Src Tryz.prog wr 10 22 (.slice A' S[k].length c') S[k].length cells) := Src.of_rd (hrd.fr (by omega) hfr (fun _ _ _ h => h)) (each_all (P := fun y => y.oneCell' = true) (by omega) hE odr_one) Tryz.underlying22
      rw [E.out] at h1
      have hX : Hid ((flatS (S.take k)).length + S[k].length ≤ maxLen ∧ ((flatS (S.take k)).length + S[k].length) * 120 ≤ 140737488355328) := by
        refine ⟨?_, ?_⟩ <;> (try simp only [maxLen]) <;> omega
      obtain ⟨cells0, ho0, hE0⟩ := hown
      have HOWN := Lib.hid ho0
      have HEA : Hid (Each (OdR w) 10 (cells0 ++ cells) (flatS (S.take k) ++ S[k])) := each_append hE0 hE
      have HFR := Lib.hid hfr
      have HNEW := Lib.hid hnew
      clear ho0 hE0 hfr hnew hrd hE hrs q00
      go_wp2_with (at_builtin; refine wpList_app _ rfl (.tmp 11) (.tmp 15) 22 22 rfl elO HOWN.out rfl HS.out rfl hX.out.1 hX.out.2 ?_; intro v1 w3 hown3 hfr3 hnew3)
      go_roundw
      case rel =>
        refine ⟨k + 1, by omega, by go_num, ?_, fr_no HFR.out HNEW.out hfr3, HNEW.out.trans (Newer.of hnew3) HFR.out.size⟩
        rw [E2.out]
        exact ⟨_, by rw [List.length_append]; exact hown3, HEA.out⟩
      case measure => simp [intOf]; omega
    · obtain rfl : k = S.length := by omega
      rw [List.take_length] at hown
      go_wp2
      go_ret
      exact ⟨_, rfl, hown, hfr, hnew⟩
set_option maxRecDepth 100000 in
set_option maxHeartbeats 1000000 in
theorem same11_eq (w : World) (A B : Option Addr) (c d : Nat) (S : List (List Od)) (ha : StS w A S) (hb : StS w B S) (hn : S.length ≤ 1000000) :
    Calls Tryz.prog 15 #[.slice A S.length c, .slice B S.length d] w fun e w' => e = .returned (.bool true) ∧ Fr No w w' := by
  have HA := Lib.hid ha
  have HB := Lib.hid hb
  have HSM : Hid (∀ W F G A c B d (l : List Od), Ls W F A c l → Ls W G B d l → Calls Tryz.prog 18 #[.slice A l.length c, .slice B l.length d] W fun e w' => e = .returned (.bool true) ∧ Fr No W w') := fun W F G A c B d l h1 h2 => same10_eq W F G A B c d l h1 h2
  clear ha hb
  go_enter Tryz.func15, Tryz.ntmps15
  go_wp2
  go_loopw [5] (fun iv wr => PrRel11 w S.length iv wr) (fun iv _ => S.length - (intOf iv).toNat)
  case atStart => exact ⟨0, Nat.zero_le _, rfl, Fr.refl _ _⟩
  case round =>
    obtain ⟨k, hk, rfl, hfr⟩ := hrel
    have hk62 : (k : Int) ≤ 1000000 := by omega
    by_cases hlt : k < S.length
    · obtain ⟨ad, A1, c1, rfl, z0, hr1⟩ := (HA.out.no hfr).at_ k hlt
      obtain ⟨bd, B1, c2, rfl, y0, hr2⟩ := (HB.out.no hfr).at_ k hlt
      have HC : Hid (∀ W, Fr No wr W → _) := fun W hW => HSM.out W _ _ A1 c1 B1 c2 S[k] (hr1.no hW) (hr2.no hW)
      have HFR := Lib.hid hfr
      have hne : Nonempty (WIn (Fr No wr)) := ⟨⟨_, Fr.refl _ _⟩⟩
      have hki : (k : Int) < (S.length : Int) := by omega
      have Z0 := fun x : WIn (Fr No wr) => x.h.cell_some z0 (fun h => h)
      have Y0 := fun x : WIn (Fr No wr) => x.h.cell_some y0 (fun h => h)
      clear hr1 hr2 hfr z0 y0
      go_upto_region 6 with (fail)
      refine wp_region_in (D := Fr No wr) (by kernel_rfl) (by kernel_rfl) (Fr.refl _ _).drew ?_
      repeat (go_big_quiet_step ((first | (go_at_call 18; refine Calls.in_of (v := .bool true) _ fun W hW => ?_; (with_reducible refine (HC.out W hW).mono ?_); exact fun _ _ h => ⟨h.1, Fr.trans hW h.2⟩))))
      refine wpQuiet_nil ?_
      rintro wq ⟨⟨w0, hq⟩, hw0⟩
      obtain rfl : wq = w0 := hw0
      go_wp2
      go_roundw
      case rel => exact ⟨k + 1, hlt, by go_num, HFR.out.trans hq⟩
      case measure => simp [intOf]; omega
    · obtain rfl : k = S.length := by omega
      go_wp2
      go_ret
      exact ⟨rfl, hfr⟩
end Go.Proofs.YtnphncemghfkbaaGreat
