/- A Hold, and its release: what a book tells, in lists. -/
import Derived.Test.YtgklifbfbjdobaaGreatMBM
import Derived.Test.YtgklifbfbjdobaaGreatMH
import Derived.Test.YtgklifbfbjdobaaGreatChartI1
namespace Go.Proofs.YtgklifbfbjdobaaGreat
open Go.RowKit Go.My Go.Maps
set_option linter.unusedSimpArgs false
set_option linter.unusedVariables false

theorem delB_ins {x : Hd} {H : List Hd} (hr : RiseH H) (hn : getH H x.acct x.num = none) : delH (insH x H) x.acct x.num = H := by
  refine rise_perm_eq ?_ (rise_filter (rise_insH x H hr hn) _) hr
  have h1 : (delH (insH x H) x.acct x.num).Perm (delH (x :: H) x.acct x.num) := List.Perm.filter _ (perm_insH x H)
  refine h1.trans ?_
  have h2 : delH (x :: H) x.acct x.num = H := by
    unfold delH
    rw [List.filter_cons, if_neg (by simp [Hd.at])]
    refine List.filter_eq_self.2 fun y hy => ?_
    cases hq : y.at x.acct x.num with
    | false => rfl
    | true => exact absurd (Hd.at_iff.1 hq) (getH_none hn y hy)
  rw [h2]
/-- put, and freed -/
theorem StB.put_free {S : List Ac} {H : List Hd} (h : StB S H) {n x : Int} {a : List UInt8} (hx : x ≤ 9223372036854775807) (h0 : putE S H n a x = 0) :
    freeE (putSS S H n a x) (putHH S H n a x) a n = 0 ∧ freeSS (putSS S H n a x) (putHH S H n a x) a n = S ∧ freeHH (putSS S H n a x) (putHH S H n a x) a n = H := by
  obtain ⟨h1, h2, h3, h4, h5, h6⟩ := put_zero h0
  have eS : putSS S H n a x = asdS S a x := by unfold putSS; rw [if_pos h0]
  have eH : putHH S H n a x = insH ⟨n, a, x⟩ H := by unfold putHH; rw [if_pos h0]
  obtain ⟨b1, b2⟩ := aside_back h.kp.inv ⟨by omega, hx⟩ h6
  have g : getH (insH ⟨n, a, x⟩ H) a n = some ⟨n, a, x⟩ := getH_ins_same (x := ⟨n, a, x⟩) h.rise h4
  have f0 : freeE (asdS S a x) (insH ⟨n, a, x⟩ H) a n = 0 := by
    unfold freeE
    rw [g]
    exact b1
  rw [eS, eH]
  refine ⟨f0, ?_, ?_⟩
  · unfold freeSS
    rw [g]
    exact b2
  · unfold freeHH
    rw [if_pos f0]
    exact delB_ins (x := ⟨n, a, x⟩) h.rise h4
def freeOd (acct : ByteArray) (n : Int) : Od := ⟨0, 501, 5, acct, ⟨#[]⟩, 0, [], 0, n, ⟨#[]⟩⟩
theorem free_right (a : ByteArray) : rightO (freeOd a 500) = nameB a.data.toList := by
  unfold rightO idB acctB peerB sumB legsB perB holdB noteB freeOd Od.an Od.pn
  simp
theorem holdO_right (a : ByteArray) (x : Int) : rightO (askOd 500 3 a x) = (nameB a.data.toList && decide (1 ≤ x)) := by
  unfold rightO idB acctB peerB sumB legsB perB holdB noteB askOd Od.an Od.pn
  simp
theorem free_do {b : Bk} (a : ByteArray) (hn : nameB a.data.toList = true) : doR b (freeOd a 500) = aboutR (freeSS b.S b.H a.data.toList 500) a.data.toList (freeE b.S b.H a.data.toList 500) ∧ doB b (freeOd a 500) = ⟨freeSS b.S b.H a.data.toList 500, freeHH b.S b.H a.data.toList 500, b.cl⟩ := by
  unfold doR doB
  rw [free_right, if_pos hn, if_pos hn]
  exact ⟨rfl, rfl⟩
theorem hold_do {b : Bk} (a : ByteArray) (x : Int) (hn : nameB a.data.toList = true) (hx : 1 ≤ x) :
    doR b (askOd 500 3 a x) = numR (aboutR (putSS b.S b.H 500 a.data.toList x) a.data.toList (putE b.S b.H 500 a.data.toList x)) 500 ∧ doB b (askOd 500 3 a x) = ⟨putSS b.S b.H 500 a.data.toList x, putHH b.S b.H 500 a.data.toList x, b.cl⟩ := by
  have h1 : rightO (askOd 500 3 a x) = true := by rw [holdO_right, hn, decide_eq_true hx]; rfl
  have h2 : numO (askOd 500 3 a x) = 500 := by unfold numO askOd; simp only; rw [IntWalk.wrap64_in _ ⟨by omega, by omega⟩]; rfl
  unfold doR doB
  rw [if_pos h1, if_pos h1]
  unfold effR effB
  rw [h2]
  exact ⟨rfl, rfl⟩
/-- a Hold that is told an error changes nothing; else it can be released, once -/
theorem hold_case {b : Bk} (hI : BkI b) (a : ByteArray) (x : Int) (hx : In64 x) :
    (∃ R : Rp, doR b (askOd 500 3 a x) = R ∧ R.err ≠ 0 ∧ doB b (askOd 500 3 a x) = b) ∨
    (∃ (hv st : Int) (B : Bk), doR b (askOd 500 3 a x) = ⟨0, hv, st + x, 500⟩ ∧ doB b (askOd 500 3 a x) = B ∧ 0 ≤ st ∧ st ≤ 9223372036854775807 ∧ st + x ≤ 9223372036854775807 ∧ 1 ≤ x ∧
      doR B (freeOd a 500) = ⟨0, hv, st, 0⟩ ∧ doB B (freeOd a 500) = b ∧ doR b (freeOd a 500) = ⟨6, 0, 0, 0⟩ ∧ doB b (freeOd a 500) = b) := by
  by_cases hr : nameB a.data.toList = true ∧ 1 ≤ x
  · obtain ⟨hn, h1⟩ := hr
    obtain ⟨e1, e2⟩ := hold_do (b := b) a x hn h1
    by_cases h0 : putE b.S b.H 500 a.data.toList x = 0
    · right
      obtain ⟨z1, z2, z3, z4, z5, z6⟩ := put_zero h0
      obtain ⟨f1, f2, f3⟩ := hI.st.put_free hx.2 h0
      have eS : putSS b.S b.H 500 a.data.toList x = asdS b.S a.data.toList x := by unfold putSS; rw [if_pos h0]
      obtain ⟨c, hc⟩ : ∃ c, getA b.S a.data.toList = some c := by
        cases hg : getA b.S a.data.toList with
        | none => unfold asdE actE at z6; rw [hg] at z6; cases z6
        | some c => exact ⟨c, rfl⟩
      have z7 : asideE c x = 0 := by unfold asdE actE at z6; rw [hc] at z6; exact z6
      have hcS : getA (asdS b.S a.data.toList x) a.data.toList = some { c with st := c.st + x } := by
        unfold asdS actS
        rw [hc]
        simp only
        rw [if_pos z7]
        have : asideA c x = { c with st := c.st + x } := by unfold asideA; rw [if_pos z7]
        rw [this]
        exact (getA_upd (c' := { c with st := c.st + x }) hc rfl _).trans (if_pos rfl)
      have hok := hI.st.kp.inv.ok c (getA_some hc).1
      have hin : In64 (c.st + x) := by
        unfold asideE at z7
        split at z7
        · assumption
        · cases z7
      have hab : ∀ T d, getA T a.data.toList = some d → aboutR T a.data.toList 0 = ⟨0, d.hv, d.st, 0⟩ := fun T d hd => by
        unfold aboutR getV
        rw [if_pos rfl, hd]
        rfl
      refine ⟨c.hv, c.st, _, ?_, e2, hok.2.1.1, hok.2.1.2, hin.2, h1, ?_, ?_, ?_, ?_⟩
      · rw [e1, h0, eS, hab _ _ hcS]
        rfl
      · rw [(free_do a hn).1]
        simp only
        rw [f1, f2, hab _ _ hc]
      · rw [(free_do a hn).2]
        simp only
        rw [f2, f3]
      · have h6 : freeE b.S b.H a.data.toList 500 = 6 := by unfold freeE; rw [z4]
        rw [(free_do a hn).1, h6]
        rfl
      · have h6 : freeE b.S b.H a.data.toList 500 = 6 := by unfold freeE; rw [z4]
        have h7 : freeSS b.S b.H a.data.toList 500 = b.S := by unfold freeSS; rw [z4]
        have h8 : freeHH b.S b.H a.data.toList 500 = b.H := by unfold freeHH; rw [h6]; rfl
        rw [(free_do a hn).2, h7, h8]
    · left
      refine ⟨_, rfl, ?_, ?_⟩
      · rw [e1]
        have h2 : aboutR (putSS b.S b.H 500 a.data.toList x) a.data.toList (putE b.S b.H 500 a.data.toList x) = errR (putE b.S b.H 500 a.data.toList x) := by unfold aboutR; rw [if_neg h0]
        rw [h2]
        unfold numR errR
        simp only
        rw [if_neg h0]
        exact h0
      · rw [e2]
        unfold putSS putHH
        rw [if_neg h0, if_neg h0]
  · left
    have h1 : rightO (askOd 500 3 a x) = false := by
      rw [holdO_right]
      cases hq : nameB a.data.toList with
      | false => rfl
      | true => rw [decide_eq_false (fun h => hr ⟨hq, h⟩)]; rfl
    refine ⟨_, rfl, ?_, ?_⟩
    · unfold doR
      rw [h1]
      simp [errR]
    · unfold doB
      rw [h1]
      rfl
end Go.Proofs.YtgklifbfbjdobaaGreat
