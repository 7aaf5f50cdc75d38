/- What ChartBack says of a chart's accounts: in lists. -/
import Derived.Test.YtjbeaoabhhaiiaaGreatChartE
namespace Go.Proofs.YtjbeaoabhhaiiaaGreat
open Go.RowKit Go.My Go.Maps
set_option linter.unusedSimpArgs false
set_option linter.unusedVariables false

theorem filter_ins (p : Ac → Bool) (b : Ac) (hp : p b = false) : ∀ S : List Ac, (insA b S).filter p = S.filter p
  | [] => by simp [insA, hp]
  | c :: r => by
    unfold insA
    split
    · rw [List.filter_cons, if_neg (by rw [hp]; decide)]
    · rw [List.filter_cons, List.filter_cons, filter_ins p b hp r]
theorem put_put (a b : Ac) (S : List Ac) (h : b.name = a.name) : putA a (putA b S) = putA a S := by
  unfold putA
  congr 1
  have hs : ∀ c : Ac, c.key.sameKey b.key = c.key.sameKey a.key := fun c => by
    show (c.name == b.name) = (c.name == a.name)
    rw [h]
  simp only [hs]
  rw [filter_ins _ b (by
    show (!(b.name == a.name)) = false
    rw [h]
    simp)]
  rw [List.filter_filter]
  simp
theorem put_back {S : List Ac} (hr : Rise S) {nm : List UInt8} {a b : Ac} (hg : getA S nm = some a) (hb : b.name = a.name) : putA a (putA b S) = S := by
  rw [put_put a b S hb]
  exact putA_self hr (by rw [(getA_some hg).2]; exact hg)

/-- given and given back -/
theorem give_back {S : List Ac} (hI : Inv S) {nm : List UInt8} {x : Int} (hx : 0 ≤ x ∧ x ≤ 9223372036854775807) (h0 : actE (fun a => giveE a x) S nm = 0) :
    ∃ a, getA S nm = some a ∧ In64 (a.hv - x) ∧ actS (fun a => giveE a x) (fun a => giveA a x) S nm = putA { a with hv := a.hv - x } S ∧
      actE (fun a => giveE a (-x)) (putA { a with hv := a.hv - x } S) nm = 0 ∧ actS (fun a => giveE a (-x)) (fun a => giveA a (-x)) (putA { a with hv := a.hv - x } S) nm = S := by
  unfold actE at h0
  cases hq : getA S nm with
  | none => rw [hq] at h0; cases h0
  | some a =>
    rw [hq] at h0
    simp only at h0
    have hok := hI.ok a (getA_some hq).1
    obtain rfl : a.name = nm := (getA_some hq).2
    have hin : In64 (a.hv - x) := by
      unfold giveE at h0
      split at h0
      · assumption
      · cases h0
    have e1 : giveA a x = { a with hv := a.hv - x } := by unfold giveA; rw [if_pos h0]
    have hg2 : getA (putA { a with hv := a.hv - x } S) a.name = some { a with hv := a.hv - x } := getA_put_same S { a with hv := a.hv - x }
    have e2 : giveE { a with hv := a.hv - x } (-x) = 0 := by
      unfold giveE
      simp only
      rw [if_pos (by have := hok.1; unfold In64 at *; omega), if_neg (by omega)]
    have e3 : giveA { a with hv := a.hv - x } (-x) = a := by
      unfold giveA
      rw [if_pos e2]
      exact Ac.ext_ rfl (by simp only; omega) rfl rfl
    refine ⟨a, rfl, hin, ?_, ?_, ?_⟩
    · unfold actS
      rw [hq]
      simp only
      rw [if_pos h0, e1]
    · unfold actE
      rw [hg2]
      exact e2
    · unfold actS
      rw [hg2]
      simp only
      rw [if_pos e2, e3]
      exact put_back hI.rise hq rfl
/-- set aside and freed -/
theorem aside_back {S : List Ac} (hI : Inv S) {nm : List UInt8} {x : Int} (hx : 0 ≤ x ∧ x ≤ 9223372036854775807) (h0 : actE (fun a => asideE a x) S nm = 0) :
    actE (fun a => asideE a (-x)) (actS (fun a => asideE a x) (fun a => asideA a x) S nm) nm = 0 ∧
      actS (fun a => asideE a (-x)) (fun a => asideA a (-x)) (actS (fun a => asideE a x) (fun a => asideA a x) S nm) nm = S := by
  unfold actE at h0
  cases hq : getA S nm with
  | none => rw [hq] at h0; cases h0
  | some a =>
    rw [hq] at h0
    simp only at h0
    have hok := hI.ok a (getA_some hq).1
    obtain rfl : a.name = nm := (getA_some hq).2
    have e1 : asideA a x = { a with st := a.st + x } := by unfold asideA; rw [if_pos h0]
    have hS : actS (fun a => asideE a x) (fun a => asideA a x) S a.name = putA { a with st := a.st + x } S := by
      unfold actS
      rw [hq]
      simp only
      rw [if_pos h0, e1]
    have hg2 : getA (putA { a with st := a.st + x } S) a.name = some { a with st := a.st + x } := getA_put_same S { a with st := a.st + x }
    have e2 : asideE { a with st := a.st + x } (-x) = 0 := by
      have h1 := hok.2.1
      unfold asideE
      simp only
      rw [if_pos (by unfold In64; omega), if_neg (by omega), if_neg (by omega)]
    have e3 : asideA { a with st := a.st + x } (-x) = a := by
      unfold asideA
      rw [if_pos e2]
      exact Ac.ext_ rfl rfl (by simp only; omega) rfl
    rw [hS]
    refine ⟨?_, ?_⟩
    · unfold actE
      rw [hg2]
      exact e2
    · unfold actS
      rw [hg2]
      simp only
      rw [if_pos e2, e3]
      exact put_back hI.rise hq rfl
theorem act_err {S : List Ac} {f : Ac → Int} {g : Ac → Ac} {nm : List UInt8} (h : actE f S nm ≠ 0) : actS f g S nm = S := by
  unfold actE at h
  unfold actS
  cases hq : getA S nm with
  | none => rfl
  | some a => rw [hq] at h; simp only at h ⊢; rw [if_neg h]
end Go.Proofs.YtjbeaoabhhaiiaaGreat
