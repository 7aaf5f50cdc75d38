/- The document's own Name. -/
import Derived.Test.YtjbeaoabhhaiiaaGreatChart
import Derived.Sort.Walk0
import Derived.Deep.DeepCutAuto
import Derived.Deep.QuietTactic
import Derived.BigQuiet
import Derived.Deep.DrawnRows
namespace Go.Proofs.YtjbeaoabhhaiiaaGreat
open Go.RowKit Go.My Go.Maps
set_option linter.unusedSimpArgs false
set_option linter.unusedVariables false
attribute [local go_sem ↓] Go.wp_at_zero Go.wp_at_succ

def RNmRel (s : ByteArray) (iv : Value) : Prop := ∃ k : Nat, k ≤ s.size ∧ iv = .int .i64 k ∧ (s.data.toList.take k).all okc = true
set_option maxRecDepth 100000 in
set_option maxHeartbeats 1000000 in
theorem refname_any (s : ByteArray) (w : World) (hs : s.size ≤ maxLen) : Calls Tryz.prog 30 #[.string s] w fun e w' => e = .returned (.bool (nameB s.data.toList)) ∧ w = w' := by
  unfold maxLen at hs
  go_enter Tryz.func30, Tryz.ntmps30
  go_wp2
  go_loop [3] (fun iv => RNmRel s iv) (fun iv => s.size - (intOf iv).toNat)
  case atStart => exact ⟨0, Nat.zero_le _, rfl, rfl⟩
  case round =>
    obtain ⟨k, hk, rfl, hall⟩ := hrel
    have HALL := Lib.hid hall
    clear hall
    by_cases hlt : k < s.size
    · cases hc : okc s[k] with
      | true =>
        have HN := Lib.hid (take_ok s k hlt HALL.out hc)
        unfold okc at hc
        simp only [decide_eq_true_eq] at hc
        have h0 : (0 : Int) ≤ (s[k].toNat : Int) := Int.natCast_nonneg _
        by_cases h97 : (97 : Int) ≤ (s[k].toNat : Int)
        · by_cases h122 : (s[k].toNat : Int) ≤ 122
          · go_wp2
            go_round
            case rel => exact ⟨k + 1, by omega, by go_num, HN.out⟩
            case measure => simp [intOf]; omega
          · exfalso; omega
        · have h48 : (48 : Int) ≤ (s[k].toNat : Int) := by omega
          have h57 : (s[k].toNat : Int) ≤ 57 := by omega
          clear hc
          go_wp2
          go_round
          case rel => exact ⟨k + 1, by omega, by go_num, HN.out⟩
          case measure => simp [intOf]; omega
      | false =>
        have HB := Lib.hid (name_bad s.data.toList k s[k] (at_k s k hlt) hc)
        unfold okc at hc
        simp only [decide_eq_false_iff_not] at hc
        have h0 : (0 : Int) ≤ (s[k].toNat : Int) := Int.natCast_nonneg _
        by_cases h97 : (97 : Int) ≤ (s[k].toNat : Int)
        · have h122 : ¬ (s[k].toNat : Int) ≤ 122 := by omega
          have h48 : (48 : Int) ≤ (s[k].toNat : Int) := by omega
          have h57 : ¬ (s[k].toNat : Int) ≤ 57 := by omega
          clear hc
          go_wp2
          go_ret
          exact ⟨by rw [HB.out]; rfl, rfl⟩
        · by_cases h48 : (48 : Int) ≤ (s[k].toNat : Int)
          · have h57 : ¬ (s[k].toNat : Int) ≤ 57 := by omega
            clear hc
            go_wp2
            go_ret
            exact ⟨by rw [HB.out]; rfl, rfl⟩
          · clear hc
            go_wp2
            go_ret
            exact ⟨by rw [HB.out]; rfl, rfl⟩
    · obtain rfl : k = s.size := by omega
      have HE : Hid (nameB s.data.toList = (decide (1 ≤ s.size) && decide (s.size ≤ 8))) := by
        have h1 := HALL.out
        rw [List.take_of_length_le (by simp)] at h1
        exact name_end _ h1
      by_cases h1 : 1 ≤ s.size
      · have h1' : (1 : Int) ≤ (s.size : Int) := by omega
        by_cases h8 : s.size ≤ 8
        · have h8' : (s.size : Int) ≤ 8 := by omega
          go_wp2
          go_ret
          exact ⟨by rw [HE.out]; simp [h1, h8], rfl⟩
        · have h8' : ¬ (s.size : Int) ≤ 8 := by omega
          go_wp2
          go_ret
          exact ⟨by rw [HE.out]; simp [h1, h8], rfl⟩
      · have h1' : ¬ (1 : Int) ≤ (s.size : Int) := by omega
        go_wp2
        go_ret
        exact ⟨by rw [HE.out]; simp [h1], rfl⟩
theorem before_take : ∀ (a b : List UInt8) (k : Nat), a.take k = b.take k → k ≤ a.length → k ≤ b.length → bytesBefore a b = bytesBefore (a.drop k) (b.drop k)
  | a, b, 0, _, _, _ => rfl
  | [], _, k + 1, _, h, _ => by simp at h
  | _, [], k + 1, _, _, h => by simp at h
  | x :: a, y :: b, k + 1, h, ha, hb => by
    simp only [List.take_succ_cons, List.cons.injEq] at h
    obtain ⟨rfl, h⟩ := h
    rw [List.drop_succ_cons, List.drop_succ_cons, ← before_take a b k h (by simpa using ha) (by simpa using hb)]
    simp [bytesBefore]
theorem before_cons (x y : UInt8) (a b : List UInt8) (h : x ≠ y) : bytesBefore (x :: a) (y :: b) = decide ((x.toNat : Int) < (y.toNat : Int)) := by
  simp only [bytesBefore]
  rw [beq_eq_false_iff_ne.2 h]
  simp [UInt8.lt_iff_toNat_lt]
theorem before_end (a b : List UInt8) (h : a = [] ∨ b = []) : bytesBefore a b = decide ((a.length : Int) < (b.length : Int)) := by
  rcases h with rfl | rfl
  · cases b <;> simp [bytesBefore] <;> omega
  · cases a <;> simp [bytesBefore] <;> omega

def AhRel (s t : ByteArray) (w : World) (iv : Value) (wr : World) : Prop := ∃ k j : Nat, k ≤ s.size ∧ k ≤ t.size ∧ iv = .int .i64 k ∧ s.data.toList.take k = t.data.toList.take k ∧ wr = w.drewN j
set_option maxRecDepth 100000 in
set_option maxHeartbeats 1000000 in
theorem refahead_any (s t : ByteArray) (w : World) (hs : s.size ≤ maxLen) (ht : t.size ≤ maxLen) :
    Calls Tryz.prog 58 #[.string s, .string t] w fun e w' => e = .returned (.bool (bytesBefore s.data.toList t.data.toList)) ∧ ∃ j, w' = w.drewN j := by
  unfold maxLen at hs ht
  go_enter Tryz.func58, Tryz.ntmps58
  go_wp2
  go_loopw [5] (fun iv wr => AhRel s t w iv wr) (fun iv _ => s.size - (intOf iv).toNat)
  case atStart => exact ⟨0, 0, Nat.zero_le _, Nat.zero_le _, rfl, rfl, rfl⟩
  case round =>
    obtain ⟨k, j, hk1, hk2, rfl, heq, rfl⟩ := hrel
    by_cases hlt : k < s.size
    · by_cases hlt2 : k < t.size
      · have e1 : s.data.toList.take (k + 1) = s.data.toList.take k ++ [s[k]] := by rw [List.take_succ_eq_append_getElem (by simpa using hlt)]; rfl
        have e2 : t.data.toList.take (k + 1) = t.data.toList.take k ++ [t[k]] := by rw [List.take_succ_eq_append_getElem (by simpa using hlt2)]; rfl
        have d1 : s.data.toList.drop k = s[k] :: s.data.toList.drop (k + 1) := by rw [List.drop_eq_getElem_cons (by simpa using hlt)]; rfl
        have d2 : t.data.toList.drop k = t[k] :: t.data.toList.drop (k + 1) := by rw [List.drop_eq_getElem_cons (by simpa using hlt2)]; rfl
        by_cases hxy : s[k] = t[k]
        · have E : Hid (s.data.toList.take (k + 1) = t.data.toList.take (k + 1)) := by show _ = _; rw [e1, e2, heq, hxy]
          have hz : ((s[k].toNat : Int) != (t[k].toNat : Int)) = false := by rw [hxy]; exact bne_self_eq_false _
          clear e1 e2 d1 d2 heq hxy
          go_wp2
          go_quiet (fail)
          go_wp2
          go_roundw
          case rel => exact ⟨k + 1, _, by omega, by omega, by go_num, E.out, rfl⟩
          case measure => simp [intOf]; omega
        · have E : Hid (bytesBefore s.data.toList t.data.toList = decide ((s[k].toNat : Int) < (t[k].toNat : Int))) := by
            show _ = _
            rw [before_take _ _ k heq (by simp; omega) (by simp; omega), d1, d2, before_cons _ _ _ _ hxy]
          have hz : ((s[k].toNat : Int) != (t[k].toNat : Int)) = true := by
            rw [bne_iff_ne]
            intro h
            exact hxy (UInt8.toNat.inj (by omega))
          have hz2 : (s[k].toNat != t[k].toNat) = true := by
            rw [bne_iff_ne]
            intro h
            exact hxy (UInt8.toNat.inj h)
          clear e1 e2 d1 d2 heq hxy
          go_wp2
          go_quiet (fail)
          go_wp2
          go_quiet (fail)
          go_wp2
          go_ret
          exact ⟨by rw [E.out]; simp, _, by rw [World.drewN_drewN, World.drewN_drewN]⟩
      · have E : Hid (bytesBefore s.data.toList t.data.toList = decide (s.size < t.size)) := by
          have hd : t.data.toList.drop k = [] := List.drop_eq_nil_of_le (by simp; omega)
          show _ = _
          rw [before_take _ _ k heq (by simp; omega) (by simp; omega), before_end _ _ (.inr hd), List.length_drop, List.length_drop]
          congr 1
          simp
          omega
        clear heq
        go_wp2
        go_ret
        exact ⟨by rw [E.out]; rfl, _, rfl⟩
    · have E : Hid (bytesBefore s.data.toList t.data.toList = decide (s.size < t.size)) := by
        have hd : s.data.toList.drop k = [] := List.drop_eq_nil_of_le (by simp; omega)
        show _ = _
        rw [before_take _ _ k heq (by simp; omega) (by simp; omega), before_end _ _ (.inl hd), List.length_drop, List.length_drop]
        congr 1
        simp
        omega
      clear heq
      go_wp2
      go_ret
      exact ⟨by rw [E.out]; rfl, _, rfl⟩

end Go.Proofs.YtjbeaoabhhaiiaaGreat
