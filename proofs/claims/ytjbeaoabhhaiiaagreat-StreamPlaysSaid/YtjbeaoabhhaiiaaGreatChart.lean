/- Contracts of package chart: names. -/
import Derived.Test.YtjbeaoabhhaiiaaGreatKit0
import Derived.Test.YtjbeaoabhhaiiaaGreatCoinsT
import Derived.Test.YtjbeaoabhhaiiaaGreatChartMath
import Derived.Laws.RangeAny
import Derived.Deep.DeepCutAuto
namespace Go.Proofs.YtjbeaoabhhaiiaaGreat
open Go.RowKit Go.My
set_option linter.unusedSimpArgs false
set_option linter.unusedVariables false

/-- a sign of a name -/
def okc (c : UInt8) : Bool := decide ((97 ≤ c.toNat ∧ c.toNat ≤ 122) ∨ (48 ≤ c.toNat ∧ c.toNat ≤ 57))
def nameB (l : List UInt8) : Bool := l.all okc && (decide (1 ≤ l.length) && decide (l.length ≤ 8))
theorem name_bad (l : List UInt8) (k : Nat) (c : UInt8) (hk : l[k]? = some c) (h : okc c = false) : nameB l = false := by
  unfold nameB
  have : l.all okc = false := by
    rw [List.all_eq_false]
    exact ⟨c, List.mem_of_getElem? hk, by rw [h]; simp⟩
  rw [this]
  rfl
theorem name_end (l : List UInt8) (h : l.all okc = true) : nameB l = (decide (1 ≤ l.length) && decide (l.length ≤ 8)) := by unfold nameB; rw [h]; rfl
theorem take_ok (s : ByteArray) (k : Nat) (h : k < s.size) (hk : (s.data.toList.take k).all okc = true) (hc : okc s[k] = true) : (s.data.toList.take (k + 1)).all okc = true := by
  have : s.data.toList.take (k + 1) = s.data.toList.take k ++ [s[k]] := by
    rw [List.take_succ_eq_append_getElem (by simpa using h)]; rfl
  rw [this, List.all_append, hk]
  simp [hc]
theorem at_k (s : ByteArray) (k : Nat) (h : k < s.size) : s.data.toList[k]? = some s[k] := by
  rw [List.getElem?_eq_getElem (by simpa using h)]; rfl

def NmRel (s : ByteArray) (w wr : World) : Prop := ∃ k : Nat, k ≤ s.size ∧ wr = w.iter s k ∧ (s.data.toList.take k).all okc = true

set_option maxHeartbeats 1000000 in
theorem name_any (s : ByteArray) (w : World) (hs : s.size ≤ maxLen) : Calls Tryz.prog 29 #[.string s] w fun e w' => e = .returned (.bool (nameB s.data.toList)) ∧ Below w.heap.size w w' := by
  have hsz : s.size ≤ 9223372036854775807 := by simp only [maxLen] at hs; omega
  have hbel : Hid (∀ k, Below w.heap.size w (w.iter s k)) := fun k => (Below.refl _ _).alloc (Nat.le_refl _) _
  have hlen : Hid (s.data.toList.length = s.size) := by show _ = _; simp
  clear hs
  go_enter Tryz.func29, Tryz.ntmps29
  go_wp2
  go_loopw [4] (fun _ wr => NmRel s w wr) (fun _ wr => s.size - wr.iterPos w.heap.size)
  case atStart => exact ⟨0, Nat.zero_le _, rfl, by simp⟩
  case round =>
    obtain ⟨k, hk, rfl, hall⟩ := hrel
    have HALL := Lib.hid hall
    clear hall
    by_cases hlt : k < s.size
    · have hb256 : s[k].toNat < 256 := UInt8.toNat_lt _
      have HAT := Lib.hid (at_k s k hlt)
      by_cases ha : s[k].toNat < 128
      · have hnx := fun ty => run_next_ascii (P := Tryz.prog) w s k ty hlt ha
        by_cases hc : (97 ≤ s[k].toNat ∧ s[k].toNat ≤ 122) ∨ (48 ≤ s[k].toNat ∧ s[k].toNat ≤ 57)
        · have hok : Hid ((s.data.toList.take (k + 1)).all okc = true) := take_ok s k hlt HALL.out (by unfold okc; exact decide_eq_true hc)
          rcases hc with ⟨c1, c2⟩ | ⟨c1, c2⟩
          · have d1 : ¬ ((s[k].toNat : Int) < 97) := by omega
            have d2 : ¬ (122 < (s[k].toNat : Int)) := by omega
            go_wp2
            exact ⟨⟨k + 1, hlt, rfl, hok.out⟩, by simp only [World.iterPos_iter]; omega⟩
          · have d1 : ((s[k].toNat : Int) < 97) := by omega
            have d3 : ¬ ((s[k].toNat : Int) < 48) := by omega
            have d4 : ¬ (57 < (s[k].toNat : Int)) := by omega
            go_wp2
            exact ⟨⟨k + 1, hlt, rfl, hok.out⟩, by simp only [World.iterPos_iter]; omega⟩
        · have hbad : Hid (nameB s.data.toList = false) := name_bad _ k _ HAT.out (by unfold okc; exact decide_eq_false hc)
          by_cases c1 : s[k].toNat < 48
          · have d1 : ((s[k].toNat : Int) < 97) := by omega
            have d3 : ((s[k].toNat : Int) < 48) := by omega
            clear hc
            go_wp2
            go_ret
            exact ⟨by rw [hbad.out]; rfl, hbel.out _⟩
          · have d3 : ¬ ((s[k].toNat : Int) < 48) := by omega
            by_cases c2 : s[k].toNat < 97
            · have d1 : ((s[k].toNat : Int) < 97) := by omega
              have d4 : (57 < (s[k].toNat : Int)) := by omega
              clear hc
              go_wp2
              go_ret
              exact ⟨by rw [hbad.out]; rfl, hbel.out _⟩
            · have d1 : ¬ ((s[k].toNat : Int) < 97) := by omega
              have d2 : (122 < (s[k].toNat : Int)) := by omega
              have d4 : (57 < (s[k].toNat : Int)) := by omega
              clear hc
              go_wp2
              go_ret
              exact ⟨by rw [hbad.out]; rfl, hbel.out _⟩
      · have hbad : Hid (nameB s.data.toList = false) := name_bad _ k _ HAT.out (by unfold okc; exact decide_eq_false (by omega))
        have hnx := fun ty => run_next_any (P := Tryz.prog) w s k ty hlt
        obtain ⟨hd1, hd2⟩ := decode_high s k hlt (by omega)
        generalize (Utf8.decode s k).1 = r at *
        generalize (Utf8.decode s k).2 = wd at *
        have d1 : ¬ ((r : Int) < 97) := by omega
        have d2 : (122 < (r : Int)) := by omega
        have d3 : ¬ ((r : Int) < 48) := by omega
        have d4 : (57 < (r : Int)) := by omega
        go_wp2
        go_ret
        exact ⟨by rw [hbad.out]; rfl, hbel.out _⟩
    · obtain rfl : k = s.size := by omega
      have hend : Hid (nameB s.data.toList = (decide (1 ≤ s.size) && decide (s.size ≤ 8))) := by
        show _ = _
        rw [name_end, hlen.out]
        have h := HALL.out
        rwa [← hlen.out, List.take_length] at h
      have hnx := fun ty => run_next_end (P := Tryz.prog) w s s.size ty hlt
      by_cases e1 : 1 ≤ s.size
      · go_wp2
        go_ret
        refine ⟨?_, hbel.out _⟩
        rw [hend.out, decide_eq_true e1, Bool.true_and, show decide (s.size ≤ 8) = decide ((s.size : Int) ≤ 8) from by rw [decide_eq_decide]; omega]
        rfl
      · go_wp2
        go_ret
        exact ⟨by rw [hend.out, decide_eq_false e1]; rfl, hbel.out _⟩
end Go.Proofs.YtjbeaoabhhaiiaaGreat
