/- The document's own chart: Ahead, At, Free. -/
import Derived.Test.YtjbeaoabhhaiiaaGreatChartJ
import Derived.Deep.DeepCutAuto
namespace Go.Proofs.YtjbeaoabhhaiiaaGreat
open Go.RowKit Go.My Go.Maps
set_option linter.unusedSimpArgs false
set_option linter.unusedVariables false
attribute [local go_sem ↓] Go.wp_at_zero Go.wp_at_succ

/-- where an account stands -/
def AtP (S : List Ac) (nm : List UInt8) (z : Int) : Prop := (getA S nm = none ∧ z = -1) ∨ ∃ (k : Nat) (h : k < S.length), z = k ∧ S[k].name = nm ∧ getA S nm = some S[k]
def AtRel (S : List Ac) (nm : List UInt8) (iv : Value) : Prop := ∃ k : Nat, k ≤ S.length ∧ iv = .int .i64 k ∧ ∀ a ∈ S.take k, a.name ≠ nm
def AtRet (S : List Ac) (nm : List UInt8) (w : World) (e : Ending) (w' : World) : Prop := ∃ z, e = .returned (.int .i64 z) ∧ AtP S nm z ∧ w = w'
theorem find_take (S : List Ac) (nm : List UInt8) (k : Nat) (hk : k < S.length) (h : ∀ a ∈ S.take k, a.name ≠ nm) (he : S[k].name = nm) : getA S nm = some S[k] := by
  unfold getA
  rw [List.find?_eq_some_iff_append]
  refine ⟨by simp [he], S.take k, S.drop (k + 1), by simp, fun a ha => by simp [h a ha]⟩
set_option maxRecDepth 100000 in
set_option maxHeartbeats 1000000 in
theorem refat_any (q : Nat) (S : List Ac) (s : ByteArray) (w : World) (h : RfS w q S) (hS : S.length ≤ 12) :
    Calls Tryz.prog 59 #[.pointer (some ⟨q, 0, none⟩), .string s] w (AtRet S s.data.toList w) := by
  obtain ⟨A, c, hb, h1, h2, ho⟩ := h
  have c0 := hb.cell 0
  simp only [List.getElem?_toArray, List.getElem?_cons_zero] at c0
  have HO := Lib.hid ho.rd
  clear hb ho h2
  obtain ⟨lo, hlo, hlo2⟩ : ∃ lo : List UInt8, s = ⟨lo.toArray⟩ ∧ s.data.toList = lo := ⟨s.data.toList, by simp, rfl⟩
  rw [hlo2]
  subst hlo
  clear hlo2
  go_enter Tryz.func59, Tryz.ntmps59
  go_wp2
  go_loop [5] (fun iv => AtRel S lo iv) (fun iv => S.length - (intOf iv).toNat)
  case atStart => exact ⟨0, Nat.zero_le _, rfl, fun _ h => by simp at h⟩
  case round =>
    obtain ⟨k, hk, rfl, hno⟩ := hrel
    by_cases hlt : k < S.length
    · obtain ⟨ad, rfl, _, p0, _⟩ := acs_at HO.out k hlt
      by_cases he : S[k].name = lo
      · have hf := find_take S lo k hlt hno he
        have HF : Hid (AtP S lo k) := .inr ⟨k, hlt, rfl, he, hf⟩
        rw [he] at p0
        clear hf hno he
        go_wp2
        go_ret
        exact ⟨_, rfl, HF.out, rfl⟩
      · have HN : Hid (∀ a ∈ S.take (k + 1), a.name ≠ lo) := by
          intro a ha
          rw [List.take_succ_eq_append_getElem hlt] at ha
          rcases List.mem_append.1 ha with ha | ha
          · exact hno a ha
          · rw [List.mem_singleton.1 ha]
            exact he
        have hz : (S[k].name == lo) = false := beq_eq_false_iff_ne.2 he
        have hz2 : ((⟨S[k].name.toArray⟩ : ByteArray).toList == (⟨lo.toArray⟩ : ByteArray).toList) = false := by rw [ByteArray.toList_eq, ByteArray.toList_eq]; exact hz
        clear hno he
        generalize S[k].name = nk at *
        go_wp2
        go_round
        case rel => exact ⟨k + 1, by omega, by go_num, HN.out⟩
        case measure => simp [intOf]; omega
    · obtain rfl : k = S.length := by omega
      rw [List.take_length] at hno
      have HF : Hid (AtP S lo (-1)) := by
        refine .inl ⟨?_, rfl⟩
        unfold getA
        rw [List.find?_eq_none]
        intro a ha
        simp [hno a ha]
      clear hno
      go_wp2
      go_ret
      exact ⟨_, rfl, HF.out, rfl⟩
end Go.Proofs.YtjbeaoabhhaiiaaGreat
