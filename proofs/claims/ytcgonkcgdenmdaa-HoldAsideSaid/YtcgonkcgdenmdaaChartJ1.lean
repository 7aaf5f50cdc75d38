/- The document's own chart: Ahead, At, Free. -/
import Derived.Test.YtcgonkcgdenmdaaChartJ
import Derived.Deep.DeepCutAuto
namespace Go.Proofs.Ytcgonkcgdenmdaa
open Go.RowKit Go.My Go.Maps
set_option linter.unusedSimpArgs false
set_option linter.unusedVariables false
attribute [local go_sem ↓] Go.wp_at_zero Go.wp_at_succ

theorem before_take : ∀ (a b : List UInt8) (k : Nat), a.take k = b.take k → k ≤ a.length → k ≤ b.length → bytesBefore a b = bytesBefore (a.drop k) (b.drop k)
  | a, b, 0, _, _, _ => rfl
  | [], _, k + 1, _, h, _ => by simp at h
  | _, [], k + 1, _, _, h => by simp at h
  | x :: a, y :: b, k + 1, h, ha, hb => by
    simp only [List.take_succ_cons, List.cons.injEq] at h
    obtain ⟨rfl, h⟩ := h
    rw [List.drop_succ_cons, List.drop_succ_cons, ← before_take a b k h (by simpa using ha) (by simpa using hb)]
    simp [bytesBefore]
theorem before_cons (x y : UInt8) (a b : List UInt8) (h : x ≠ y) : bytesBefore (x :: a) (y :: b) = decide ((x.toNat : Int) < (y.toNat : Int)) := by
  simp only [bytesBefore]
  rw [beq_eq_false_iff_ne.2 h]
  simp [UInt8.lt_iff_toNat_lt]
theorem before_end (a b : List UInt8) (h : a = [] ∨ b = []) : bytesBefore a b = decide ((a.length : Int) < (b.length : Int)) := by
  rcases h with rfl | rfl
  · cases b <;> simp [bytesBefore] <;> omega
  · cases a <;> simp [bytesBefore] <;> omega

def AhRel (s t : ByteArray) (w : World) (iv : Value) (wr : World) : Prop := ∃ k j : Nat, k ≤ s.size ∧ k ≤ t.size ∧ iv = .int .i64 k ∧ s.data.toList.take k = t.data.toList.take k ∧ wr = w.drewN j
set_option maxRecDepth 100000 in
set_option maxHeartbeats 1000000 in
theorem refahead_any (s t : ByteArray) (w : World) (hs : s.size ≤ maxLen) (ht : t.size ≤ maxLen) :
    Calls Try.prog 42 #[.string s, .string t] w fun e w' => e = .returned (.bool (bytesBefore s.data.toList t.data.toList)) ∧ ∃ j, w' = w.drewN j := by
  unfold maxLen at hs ht
  go_enter Try.func42, Try.ntmps42
  go_wp2
  go_loopw [5] (fun iv wr => AhRel s t w iv wr) (fun iv _ => s.size - (intOf iv).toNat)
  case atStart => exact ⟨0, 0, Nat.zero_le _, Nat.zero_le _, rfl, rfl, rfl⟩
  case round =>
    obtain ⟨k, j, hk1, hk2, rfl, heq, rfl⟩ := hrel
    by_cases hlt : k < s.size
    · by_cases hlt2 : k < t.size
      · have e1 : s.data.toList.take (k + 1) = s.data.toList.take k ++ [s[k]] := by rw [List.take_succ_eq_append_getElem (by simpa using hlt)]; rfl
        have e2 : t.data.toList.take (k + 1) = t.data.toList.take k ++ [t[k]] := by rw [List.take_succ_eq_append_getElem (by simpa using hlt2)]; rfl
        have d1 : s.data.toList.drop k = s[k] :: s.data.toList.drop (k + 1) := by rw [List.drop_eq_getElem_cons (by simpa using hlt)]; rfl
        have d2 : t.data.toList.drop k = t[k] :: t.data.toList.drop (k + 1) := by rw [List.drop_eq_getElem_cons (by simpa using hlt2)]; rfl
        by_cases hxy : s[k] = t[k]
        · have E : Hid (s.data.toList.take (k + 1) = t.data.toList.take (k + 1)) := by show _ = _; rw [e1, e2, heq, hxy]
          have hz : ((s[k].toNat : Int) != (t[k].toNat : Int)) = false := by rw [hxy]; exact bne_self_eq_false _
          clear e1 e2 d1 d2 heq hxy
          go_wp2
          go_quiet (fail)
          go_wp2
          go_roundw
          case rel => exact ⟨k + 1, _, by omega, by omega, by go_num, E.out, rfl⟩
          case measure => simp [intOf]; omega
        · have E : Hid (bytesBefore s.data.toList t.data.toList = decide ((s[k].toNat : Int) < (t[k].toNat : Int))) := by
            show _ = _
            rw [before_take _ _ k heq (by simp; omega) (by simp; omega), d1, d2, before_cons _ _ _ _ hxy]
          have hz : ((s[k].toNat : Int) != (t[k].toNat : Int)) = true := by
            rw [bne_iff_ne]
            intro h
            exact hxy (UInt8.toNat.inj (by omega))
          have hz2 : (s[k].toNat != t[k].toNat) = true := by
            rw [bne_iff_ne]
            intro h
            exact hxy (UInt8.toNat.inj h)
          clear e1 e2 d1 d2 heq hxy
          go_wp2
          go_quiet (fail)
          go_wp2
          go_quiet (fail)
          go_wp2
          go_ret
          exact ⟨by rw [E.out]; simp, _, by rw [World.drewN_drewN, World.drewN_drewN]⟩
      · have E : Hid (bytesBefore s.data.toList t.data.toList = decide (s.size < t.size)) := by
          have hd : t.data.toList.drop k = [] := List.drop_eq_nil_of_le (by simp; omega)
          show _ = _
          rw [before_take _ _ k heq (by simp; omega) (by simp; omega), before_end _ _ (.inr hd), List.length_drop, List.length_drop]
          congr 1
          simp
          omega
        clear heq
        go_wp2
        go_ret
        exact ⟨by rw [E.out]; rfl, _, rfl⟩
    · have E : Hid (bytesBefore s.data.toList t.data.toList = decide (s.size < t.size)) := by
        have hd : s.data.toList.drop k = [] := List.drop_eq_nil_of_le (by simp; omega)
        show _ = _
        rw [before_take _ _ k heq (by simp; omega) (by simp; omega), before_end _ _ (.inl hd), List.length_drop, List.length_drop]
        congr 1
        simp
        omega
      clear heq
      go_wp2
      go_ret
      exact ⟨by rw [E.out]; rfl, _, rfl⟩

/-- where an account stands -/
def AtP (S : List Ac) (nm : List UInt8) (z : Int) : Prop := (getA S nm = none ∧ z = -1) ∨ ∃ (k : Nat) (h : k < S.length), z = k ∧ S[k].name = nm ∧ getA S nm = some S[k]
def AtRel (S : List Ac) (nm : List UInt8) (iv : Value) : Prop := ∃ k : Nat, k ≤ S.length ∧ iv = .int .i64 k ∧ ∀ a ∈ S.take k, a.name ≠ nm
def AtRet (S : List Ac) (nm : List UInt8) (w : World) (e : Ending) (w' : World) : Prop := ∃ z, e = .returned (.int .i64 z) ∧ AtP S nm z ∧ w = w'
theorem find_take (S : List Ac) (nm : List UInt8) (k : Nat) (hk : k < S.length) (h : ∀ a ∈ S.take k, a.name ≠ nm) (he : S[k].name = nm) : getA S nm = some S[k] := by
  unfold getA
  rw [List.find?_eq_some_iff_append]
  refine ⟨by simp [he], S.take k, S.drop (k + 1), by simp, fun a ha => by simp [h a ha]⟩
set_option maxRecDepth 100000 in
set_option maxHeartbeats 1000000 in
theorem refat_any (q : Nat) (S : List Ac) (s : ByteArray) (w : World) (h : RfS w q S) (hS : S.length ≤ 12) :
    Calls Try.prog 41 #[.pointer (some ⟨q, 0, none⟩), .string s] w (AtRet S s.data.toList w) := by
  obtain ⟨A, c, hb, h1, h2, ho⟩ := h
  have c0 := hb.cell 0
  simp only [List.getElem?_toArray, List.getElem?_cons_zero] at c0
  have HO := Lib.hid ho.rd
  clear hb ho h2
  obtain ⟨lo, hlo, hlo2⟩ : ∃ lo : List UInt8, s = ⟨lo.toArray⟩ ∧ s.data.toList = lo := ⟨s.data.toList, by simp, rfl⟩
  rw [hlo2]
  subst hlo
  clear hlo2
  go_enter Try.func41, Try.ntmps41
  go_wp2
  go_loop [5] (fun iv => AtRel S lo iv) (fun iv => S.length - (intOf iv).toNat)
  case atStart => exact ⟨0, Nat.zero_le _, rfl, fun _ h => by simp at h⟩
  case round =>
    obtain ⟨k, hk, rfl, hno⟩ := hrel
    by_cases hlt : k < S.length
    · obtain ⟨ad, rfl, _, p0, _⟩ := acs_at HO.out k hlt
      by_cases he : S[k].name = lo
      · have hf := find_take S lo k hlt hno he
        have HF : Hid (AtP S lo k) := .inr ⟨k, hlt, rfl, he, hf⟩
        rw [he] at p0
        clear hf hno he
        go_wp2
        go_ret
        exact ⟨_, rfl, HF.out, rfl⟩
      · have HN : Hid (∀ a ∈ S.take (k + 1), a.name ≠ lo) := by
          intro a ha
          rw [List.take_succ_eq_append_getElem hlt] at ha
          rcases List.mem_append.1 ha with ha | ha
          · exact hno a ha
          · rw [List.mem_singleton.1 ha]
            exact he
        have hz : (S[k].name == lo) = false := beq_eq_false_iff_ne.2 he
        have hz2 : ((⟨S[k].name.toArray⟩ : ByteArray).toList == (⟨lo.toArray⟩ : ByteArray).toList) = false := by rw [ByteArray.toList_eq, ByteArray.toList_eq]; exact hz
        clear hno he
        generalize S[k].name = nk at *
        go_wp2
        go_round
        case rel => exact ⟨k + 1, by omega, by go_num, HN.out⟩
        case measure => simp [intOf]; omega
    · obtain rfl : k = S.length := by omega
      rw [List.take_length] at hno
      have HF : Hid (AtP S lo (-1)) := by
        refine .inl ⟨?_, rfl⟩
        unfold getA
        rw [List.find?_eq_none]
        intro a ha
        simp [hno a ha]
      clear hno
      go_wp2
      go_ret
      exact ⟨_, rfl, HF.out, rfl⟩
end Go.Proofs.Ytcgonkcgdenmdaa
