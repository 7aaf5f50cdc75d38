/- clash.positions: where each order of a list stands. -/
import Derived.Test.YtnphncemghfkbaaClash4
import Derived.Test.YtnphncemghfkbaaOds
namespace Go.Proofs.Ytnphncemghfkbaa
open Go.RowKit Go.My Go.Maps Go.WideMaps
set_option linter.unusedSimpArgs false
set_option linter.unusedVariables false
attribute [local go_sem ↓] Go.wp_at_zero Go.wp_at_succ

def PoRel (w : World) (m : Nat) (l : List Od) (iv : Value) (wr : World) : Prop := ∃ k : Nat, k ≤ l.length ∧ iv = .int .i64 k ∧ IMp wr m (idsO (l.take k)) ∧ Fr No w wr
set_option maxRecDepth 100000 in
set_option maxHeartbeats 1000000 in
theorem positions_any (w0 w : World) (F : Nat → Prop) (A : Option Addr) (c : Nat) (l : List Od) (hl : OdsS w0 w F A l) (hn : l.length ≤ 1000000) :
    Calls Try.prog 29 #[.slice A l.length c] w fun e w' => ∃ m, e = .returned (.map (some m)) ∧ IMp w' m (idsO l) ∧ Fr No w w' ∧ w.heap.size ≤ m := by
  have HL := Lib.hid hl
  have hmm := @run_makeMap Try.prog
  have h0 : IMp (w.alloc (.map #[] 0)) w.heap.size (idsO (l.take 0)) := ⟨⟨_, World.ownsMap_made _ _ _ _, RepI.nil⟩⟩
  have HI0 := Lib.hid h0
  have HF0 : Hid (Fr No w (w.alloc (.map #[] 0))) := (Fr.refl _ _).alloc _
  clear hl h0
  go_enter Try.func29, Try.ntmps29
  go_wp2
  go_loopw [9] (fun iv wr => PoRel w w.heap.size l iv wr) (fun iv _ => l.length - (intOf iv).toNat)
  case atStart => exact ⟨0, Nat.zero_le _, rfl, HI0.out, HF0.out⟩
  case round =>
    obtain ⟨k, hk, rfl, hm, hfr⟩ := hrel
    have hk62 : (k : Int) ≤ 1000000 := by omega
    by_cases hlt : k < l.length
    · obtain ⟨ad, v, rfl, _, hok, hg, hL, q0, q1, q2, q3, q4, q5, q6, q7, q8, q9⟩ := (HL.out.fr hfr (fun _ _ _ h => h)).at_ k hlt
      obtain ⟨B, d, rfl, hd1, hd2⟩ := hL.form
      have hids := idsO_take l hlt
      have hlen : (idsO (l.take k)).length = k := by unfold idsO; rw [List.length_map, List.length_take]; omega
      have HOK : Hid (IdOk l[k].id) := ⟨hok.1, hok.2.1⟩
      have HM := Lib.hid hm
      have HFR := Lib.hid hfr
      have HIDS := Lib.hid hids
      have hml := hm.lt
      generalize l[k] = o at *
      clear hok hg hL hm hfr hids
      generalize idsO (l.take k) = L at *
      go_wp2_with (at_mapUpdate; refine wpList_putI _ rfl (.tmp 14) (.tmp 16) (.tmp 17) rfl rfl (HM.out.fr ((Fr.refl No _).alloc _) (fun h => h)) o.id rfl (by rw [hlen]; rfl) HOK.out (by rw [hlen]; simp only [maxLen]; omega) (by rw [hlen]; unfold In64; omega) ?_; intro w3 hm3 hf3)
      go_roundw
      case rel =>
        refine ⟨k + 1, by omega, by go_num, by rw [HIDS.out]; exact hm3, ?_⟩
        exact (HFR.out.alloc _).trans' hf3 (fun i hi hlt2 => by have : i = w.heap.size := hi; omega)
      case measure => simp [intOf]; omega
    · obtain rfl : k = l.length := by omega
      rw [List.take_length] at hm
      go_wp2
      go_ret
      exact ⟨_, rfl, hm, hfr, Nat.le_refl _⟩
end Go.Proofs.Ytnphncemghfkbaa
