/- HoldBack, in lists: put, and freed; put, and taken whole. -/
import Derived.Test.YtcgonkcgdenmdaaHoldK0
namespace Go.Proofs.Ytcgonkcgdenmdaa
open Go.RowKit Go.My Go.Maps
set_option linter.unusedSimpArgs false
set_option linter.unusedVariables false

theorem del_ins {x : Hd} {H : List Hd} (hr : RiseH H) (hn : getH H x.acct x.num = none) : delH (insH x H) x.acct x.num = H := by
  refine rise_perm_eq ?_ (rise_filter (rise_insH x H hr hn) _) hr
  have h1 : (delH (insH x H) x.acct x.num).Perm (delH (x :: H) x.acct x.num) := List.Perm.filter _ (perm_insH x H)
  refine h1.trans ?_
  have h2 : delH (x :: H) x.acct x.num = H := by
    unfold delH
    rw [List.filter_cons, if_neg (by simp [Hd.at])]
    refine List.filter_eq_self.2 fun y hy => ?_
    cases hq : y.at x.acct x.num with
    | false => rfl
    | true => exact absurd (Hd.at_iff.1 hq) (getH_none hn y hy)
  rw [h2]
/-- put, and freed -/
theorem St.put_free {S : List Ac} {H : List Hd} (h : St S H) {n x : Int} {a : List UInt8} (hx : x ≤ 9223372036854775807) (h0 : putE S H n a x = 0) :
    getH (putHH S H n a x) a n = some ⟨n, a, x⟩ ∧ freeE (putSS S H n a x) (putHH S H n a x) a n = 0 ∧ freeSS (putSS S H n a x) (putHH S H n a x) a n = S ∧ freeHH (putSS S H n a x) (putHH S H n a x) a n = H ∧
      asdE (putSS S H n a x) a (-x) = 0 ∧ asdS (putSS S H n a x) a (-x) = S ∧ (putHH S H n a x).length = H.length + 1 := by
  obtain ⟨h1, h2, h3, h4, h5, h6⟩ := put_zero h0
  have eS : putSS S H n a x = asdS S a x := by unfold putSS; rw [if_pos h0]
  have eH : putHH S H n a x = insH ⟨n, a, x⟩ H := by unfold putHH; rw [if_pos h0]
  obtain ⟨b1, b2⟩ := aside_back h.kp.inv ⟨by omega, hx⟩ h6
  have g : getH (insH ⟨n, a, x⟩ H) a n = some ⟨n, a, x⟩ := getH_ins_same (x := ⟨n, a, x⟩) h.rise h4
  have f0 : freeE (asdS S a x) (insH ⟨n, a, x⟩ H) a n = 0 := by
    unfold freeE
    rw [g]
    exact b1
  rw [eS, eH]
  refine ⟨g, f0, ?_, ?_, b1, b2, len_insH _ _⟩
  · unfold freeSS
    rw [g]
    exact b2
  · unfold freeHH
    rw [if_pos f0]
    exact del_ins (x := ⟨n, a, x⟩) h.rise h4
theorem abc_name {nm : List UInt8} (h : nm ∈ abc) : nameB nm = true := by
  simp only [abc, List.mem_cons, List.not_mem_nil, or_false] at h
  rcases h with rfl | rfl | rfl <;> decide
theorem legE_of {S : List Ac} {g : Lg} {a : Ac} (h : getA S g.nm = some a) (hm : g.sum ≠ -9223372036854775808) : legE S g = giveE a (-g.sum) := by
  unfold legE actE
  rw [h]
  simp [hm]
/-- what the one gives the other -/
theorem St.move {S : List Ac} {H : List Hd} (h : St S H) {x : Int} (hx : 0 < x ∧ x ≤ 9223372036854775807) {a : ByteArray} {ac : Ac} (hg : getA S a.data.toList = some ac) (hf : freeB ac x = true) (hne : a.data.toList ≠ [99]) :
    checkE S (legsT a ⟨#[99]⟩ x) = 2 ∨ (checkE S (legsT a ⟨#[99]⟩ x) = 0 ∧ getA (makeS S (legsT a ⟨#[99]⟩ x)) a.data.toList = some { ac with hv := ac.hv - x }) := by
  have hn : nameB a.data.toList = true := abc_name ((h.kp.acc _).1 (by rw [hg]; rfl))
  have hR : rightB (legsT a ⟨#[99]⟩ x) = true := by
    unfold rightB legsT
    simp only [List.length_cons, List.length_nil, List.all_cons, List.all_nil, List.map_cons, List.map_nil, Lg.nm, Bool.and_true, Bool.and_eq_true, decide_eq_true_eq, List.nodup_cons, List.mem_cons, List.not_mem_nil, or_false, not_false_eq_true, List.nodup_nil, and_true]
    exact ⟨⟨by omega, ⟨hn, by omega⟩, by decide, by omega⟩, hne⟩
  have hT : total (sums (legsT a ⟨#[99]⟩ x)) = 0 := by
    unfold sums legsT
    simp only [List.map_cons, List.map_nil, total_cons, total_nil]
    omega
  have hok := h.kp.inv.ok ac (getA_some hg).1
  have hf' := hf
  unfold freeB at hf'
  rw [decide_eq_true_eq] at hf'
  have e1 : giveE ac x = 0 := by
    unfold giveE
    unfold OkA In64 at hok
    rw [if_pos (by unfold In64; omega), if_neg (by rw [hf]; simp)]
  have k1 : legE S ⟨a, -x⟩ = 0 := by
    rw [legE_of (g := ⟨a, -x⟩) hg (show -x ≠ _ by omega)]
    simp only [Int.neg_neg]
    exact e1
  have k2 : legS S ⟨a, -x⟩ = putA { ac with hv := ac.hv - x } S := by
    obtain ⟨a', h1, _, _, _, h5⟩ := leg_some k1
    rw [show (⟨a, -x⟩ : Lg).nm = a.data.toList from rfl, hg] at h1
    injection h1 with h1
    subst h1
    rw [h5]
    simp only [Int.sub_eq_add_neg]
  obtain ⟨cc, hcc⟩ := Option.isSome_iff_exists.1 ((h.kp.acc [99]).2 (by decide))
  have hg2 : getA (legS S ⟨a, -x⟩) [99] = some cc := by
    rw [leg_other S ⟨a, -x⟩ [99] (fun e => hne e.symm)]
    exact hcc
  have eC : checkE S (legsT a ⟨#[99]⟩ x) = legE (legS S ⟨a, -x⟩) ⟨⟨#[99]⟩, x⟩ := by
    unfold checkE
    rw [hR, if_neg (by decide), if_pos hT]
    unfold legsT
    simp only [legsE]
    rw [if_pos k1]
    split
    · rename_i h; exact h.symm
    · rfl
  have eE : legE (legS S ⟨a, -x⟩) ⟨⟨#[99]⟩, x⟩ = giveE cc (-x) := by
    exact legE_of (g := ⟨⟨#[99]⟩, x⟩) hg2 (show x ≠ _ by omega)
  by_cases h0 : giveE cc (-x) = 0
  · refine .inr ⟨by rw [eC, eE, h0], ?_⟩
    unfold makeS
    rw [if_pos (by rw [eC, eE, h0])]
    unfold legsT
    simp only [legsS]
    rw [if_pos k1, if_pos (by rw [eE, h0]), leg_other _ _ _ (show a.data.toList ≠ (⟨⟨#[99]⟩, x⟩ : Lg).nm from hne), k2]
    exact (getA_upd (c' := { ac with hv := ac.hv - x }) hg rfl _).trans (if_pos rfl)
  · refine .inl ?_
    rw [eC, eE]
    unfold giveE at h0 ⊢
    split
    · rename_i h1
      rw [if_pos h1, if_neg (by omega)] at h0
      exact absurd rfl h0
    · rfl
theorem St.move_c {S : List Ac} {x : Int} : checkE S (legsT ⟨#[99]⟩ ⟨#[99]⟩ x) = 1 := by
  unfold checkE
  rw [if_pos]
  unfold rightB legsT
  simp [Lg.nm]
/-- put, and taken whole: what the account has then -/
theorem St.put_take {S : List Ac} {H : List Hd} (h : St S H) {n x : Int} {a : ByteArray} (hx : x ≤ 9223372036854775807) (h0 : putE S H n a.data.toList x = 0) :
    ∃ ac : Ac, getA S a.data.toList = some ac ∧ getA (putSS S H n a.data.toList x) a.data.toList = some { ac with st := ac.st + x } ∧ In64 (ac.st + x) ∧
      (a.data.toList = [99] → takeE (putSS S H n a.data.toList x) (putHH S H n a.data.toList x) a n ⟨#[99]⟩ x = 1) ∧
      (a.data.toList ≠ [99] → takeE (putSS S H n a.data.toList x) (putHH S H n a.data.toList x) a n ⟨#[99]⟩ x = 2 ∨
        (takeE (putSS S H n a.data.toList x) (putHH S H n a.data.toList x) a n ⟨#[99]⟩ x = 0 ∧ In64 (ac.hv - x) ∧
          getA (takeSS (putSS S H n a.data.toList x) (putHH S H n a.data.toList x) a n ⟨#[99]⟩ x) a.data.toList = some { ac with hv := ac.hv - x } ∧
          takeHH (putSS S H n a.data.toList x) (putHH S H n a.data.toList x) a n ⟨#[99]⟩ x = H)) := by
  obtain ⟨h1, h2, h3, h4, h5, h6⟩ := put_zero h0
  obtain ⟨g, _, _, f4, b1, b2, _⟩ := h.put_free hx h0
  obtain ⟨ac, hg⟩ := Option.isSome_iff_exists.1 (asd_some h6)
  have hasd : asideE ac x = 0 := by
    unfold asdE actE at h6
    rw [hg] at h6
    exact h6
  have hin : In64 (ac.st + x) ∧ freeB ac x = true := by
    unfold asideE at hasd
    split at hasd
    · rename_i hi
      refine ⟨hi, ?_⟩
      cases hf : freeB ac x with
      | true => rfl
      | false => rw [if_pos ⟨h3, hf⟩] at hasd; cases hasd
    · cases hasd
  have eS : getA (putSS S H n a.data.toList x) a.data.toList = some { ac with st := ac.st + x } := by
    unfold putSS
    rw [if_pos h0]
    unfold asdS actS
    rw [hg]
    simp only
    rw [if_pos hasd]
    unfold asideA
    rw [if_pos hasd]
    exact (getA_upd (c' := { ac with st := ac.st + x }) hg rfl _).trans (if_pos rfl)
  have eT : takeE (putSS S H n a.data.toList x) (putHH S H n a.data.toList x) a n ⟨#[99]⟩ x = checkE S (legsT a ⟨#[99]⟩ x) := by
    unfold takeE
    rw [g]
    simp only
    rw [if_neg (by omega), if_pos b1, b2]
  refine ⟨ac, hg, eS, hin.1, fun hc => ?_, fun hne => ?_⟩
  · rw [eT]
    obtain rfl : a = ⟨#[99]⟩ := by
      obtain ⟨⟨l⟩⟩ := a
      simp only at hc
      rw [hc]
    exact St.move_c
  · rcases h.move ⟨h3, hx⟩ hg hin.2 hne with h7 | ⟨h7, h8⟩
    · exact .inl (eT.trans h7)
    · have hT0 := eT.trans h7
      refine .inr ⟨hT0, ?_, ?_, ?_⟩
      · have hok := h.kp.inv.ok ac (getA_some hg).1
        have hf := hin.2
        unfold freeB at hf
        rw [decide_eq_true_eq] at hf
        unfold OkA In64 at hok
        unfold In64
        omega
      · unfold takeSS
        rw [if_pos hT0, g]
        simp only [sumO]
        rw [b2]
        exact h8
      · unfold takeHH
        rw [if_pos hT0]
        have := f4
        unfold freeHH at this
        split at this
        · exact this
        · rename_i hh
          exact absurd (by unfold freeE; rw [g]; exact b1) hh
end Go.Proofs.Ytcgonkcgdenmdaa
