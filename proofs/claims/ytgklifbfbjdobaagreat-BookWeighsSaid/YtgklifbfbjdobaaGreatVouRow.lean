/- Legs in another row: in lists. -/
import Derived.Test.YtgklifbfbjdobaaGreatVouMath
namespace Go.Proofs.YtgklifbfbjdobaaGreat
open Go.RowKit Go.My Go.Maps
set_option linter.unusedSimpArgs false
set_option linter.unusedVariables false

theorem getA_cons (a : Ac) (r : List Ac) (k : List UInt8) : getA (a :: r) k = if a.name = k then some a else getA r k := by
  unfold getA
  rw [List.find?_cons]
  by_cases h : a.name = k
  · rw [if_pos h]; simp [h]
  · rw [if_neg h, beq_eq_false_iff_ne.2 h]
theorem getA_above {S : List Ac} {k : List UInt8} (h : ∀ a ∈ S, bytesBefore k a.name = true) : getA S k = none := by
  cases hq : getA S k with
  | none => rfl
  | some a =>
    have := h a (getA_some hq).1
    rw [(getA_some hq).2, WideAt.bytes_irrefl] at this
    cases this
theorem rise_above {a : Ac} {r : List Ac} (h : Rise (a :: r)) : ∀ b ∈ r, bytesBefore a.name b.name = true := fun b hb => (List.pairwise_cons.1 h).1 b hb
theorem rise_ext : ∀ (S T : List Ac), Rise S → Rise T → (∀ k, getA S k = getA T k) → S = T
  | [], [], _, _, _ => rfl
  | [], b :: t, _, _, h => by have := h b.name; rw [getA_cons, if_pos rfl] at this; cases this
  | a :: r, [], _, _, h => by have := h a.name; rw [getA_cons, if_pos rfl] at this; cases this
  | a :: r, b :: t, hs, ht, h => by
    have hab : a.name = b.name := by
      rcases Decidable.em (a.name = b.name) with e | e
      · exact e
      · exfalso
        rcases WideAt.bytes_total a.name b.name e with g | g
        · have h1 := h a.name
          rw [getA_cons, if_pos rfl, getA_above (S := b :: t) (fun c hc => by
            rcases List.mem_cons.1 hc with rfl | hc
            · exact g
            · exact WideShapes.bytes_trans _ _ _ g (rise_above ht c hc))] at h1
          cases h1
        · have h1 := h b.name
          rw [getA_cons b, if_pos rfl, getA_above (S := a :: r) (fun c hc => by
            rcases List.mem_cons.1 hc with rfl | hc
            · exact g
            · exact WideShapes.bytes_trans _ _ _ g (rise_above hs c hc))] at h1
          cases h1
    have h0 := h a.name
    rw [getA_cons, if_pos rfl, getA_cons, if_pos hab.symm] at h0
    injection h0 with h0
    subst h0
    congr 1
    refine rise_ext r t (List.pairwise_cons.1 hs).2 (List.pairwise_cons.1 ht).2 fun k => ?_
    by_cases hk : a.name = k
    · subst hk
      rw [getA_above (rise_above hs), getA_above (rise_above ht)]
    · have h1 := h k
      rw [getA_cons, if_neg hk, getA_cons, if_neg hk] at h1
      exact h1

/-- what an account has behind all legs -/
theorem legs_get (S : List Ac) : ∀ (L : List Lg) (T : List Ac), (L.map Lg.nm).Nodup → (∀ g ∈ L, getA T g.nm = getA S g.nm) → (∀ g ∈ L, legE S g = 0) → ∀ k, getA (legsS T L) k = match L.find? (fun g => g.nm == k) with | some g => (getA S k).map (fun a => { a with hv := a.hv + g.sum }) | none => getA T k
  | [], T, _, _, _, k => rfl
  | g :: r, T, hd, hs, h0, k => by
    rw [List.map_cons, List.nodup_cons] at hd
    have h1 := leg_same g (hs g List.mem_cons_self)
    have hg0 := h0 g List.mem_cons_self
    have ih := legs_get S r (legS T g) hd.2 (fun b hb => by
      rw [leg_other T g _ (fun e => hd.1 (List.mem_map.2 ⟨b, hb, e⟩))]
      exact hs b (List.mem_cons_of_mem _ hb)) (fun b hb => h0 b (List.mem_cons_of_mem _ hb)) k
    have e : legsS T (g :: r) = legsS (legS T g) r := by
      show (if legE T g = 0 then _ else _) = _
      rw [if_pos (by rw [h1]; exact hg0)]
    rw [e, ih, List.find?_cons]
    by_cases hk : g.nm = k
    · have hn : r.find? (fun g => g.nm == k) = none := by
        rw [List.find?_eq_none]
        intro b hb hbk
        exact hd.1 (List.mem_map.2 ⟨b, hb, by rw [hk]; simpa using hbk⟩)
      rw [hn]
      simp only [hk, beq_self_eq_true]
      obtain ⟨a, ha, _, _, _, he⟩ := leg_some (S := T) (g := g) (by rw [h1]; exact hg0)
      have haS : getA S k = some a := by rw [← hk, ← hs g List.mem_cons_self]; exact ha
      rw [he, haS]
      have hnm : a.name = k := by rw [← hk]; exact (getA_some ha).2
      have := getA_put_same T { a with hv := a.hv + g.sum }
      simp only [hnm] at this ⊢
      rw [this]
      simp only [Option.map_some, hnm]
    · have : (g.nm == k) = false := beq_eq_false_iff_ne.2 hk
      rw [this]
      simp only
      cases r.find? (fun g => g.nm == k) with
      | some b => rfl
      | none => exact leg_other T g k (fun h => hk h.symm)

theorem find_perm {L R : List Lg} (hp : L.Perm R) (hd : (L.map Lg.nm).Nodup) (k : List UInt8) : L.find? (fun g => g.nm == k) = R.find? (fun g => g.nm == k) := by
  have hdR : (R.map Lg.nm).Nodup := (hp.map Lg.nm).nodup_iff.1 hd
  have uniq : ∀ (M : List Lg), (M.map Lg.nm).Nodup → ∀ a ∈ M, ∀ b ∈ M, a.nm = b.nm → a = b := by
    intro M hM a ha b hb hab
    have h1 := List.pairwise_map.1 hM
    induction M with
    | nil => cases ha
    | cons c t ih =>
      obtain ⟨g1, g2⟩ := List.pairwise_cons.1 h1
      rw [List.map_cons, List.nodup_cons] at hM
      rcases List.mem_cons.1 ha with ea | ha2 <;> rcases List.mem_cons.1 hb with eb | hb2
      · rw [ea, eb]
      · exact absurd (by rw [← ea]; exact hab) (g1 b hb2)
      · exact absurd (by rw [← eb]; exact hab.symm) (g1 a ha2)
      · exact ih hM.2 ha2 hb2 g2
  cases hl : L.find? (fun g => g.nm == k) with
  | none =>
    symm
    rw [List.find?_eq_none] at hl ⊢
    exact fun x hx => hl x (hp.mem_iff.2 hx)
  | some a =>
    have ha := List.mem_of_find?_eq_some hl
    have hak : a.nm = k := by simpa using List.find?_some hl
    cases hr : R.find? (fun g => g.nm == k) with
    | none =>
      rw [List.find?_eq_none] at hr
      exact absurd (by simpa using hak) (hr a (hp.mem_iff.1 ha))
    | some b =>
      have hb := List.mem_of_find?_eq_some hr
      have hbk : b.nm = k := by simpa using List.find?_some hr
      rw [uniq L hd a ha b (hp.mem_iff.2 hb) (by rw [hak, hbk])]
theorem total_perm {l r : List Int} (h : l.Perm r) : total l = total r := by
  induction h with
  | nil => rfl
  | cons x _ ih => rw [total_cons, total_cons, ih]
  | swap x y l => simp only [total_cons]; omega
  | trans _ _ h1 h2 => rw [h1, h2]
theorem right_perm {L R : List Lg} (hp : L.Perm R) : rightB L = rightB R := by
  unfold rightB
  have h1 := hp.length_eq
  have h2 : L.all (fun g => nameB g.nm && decide (g.sum ≠ 0)) = R.all (fun g => nameB g.nm && decide (g.sum ≠ 0)) := by
    rw [Bool.eq_iff_iff, List.all_eq_true, List.all_eq_true]
    exact ⟨fun h x hx => h x (hp.mem_iff.2 hx), fun h x hx => h x (hp.mem_iff.1 hx)⟩
  have h3 : decide ((L.map Lg.nm).Nodup) = decide ((R.map Lg.nm).Nodup) := decide_eq_decide.2 (hp.map Lg.nm).nodup_iff
  rw [h1, h2, h3]
theorem make_perm {S : List Ac} (hI : Inv S) {L R : List Lg} (hp : L.Perm R) : (checkE S L = 0 ↔ checkE S R = 0) ∧ makeS S L = makeS S R := by
  have hr := right_perm hp
  have ht : total (sums L) = total (sums R) := total_perm (hp.map Lg.sum)
  have key : ∀ M : List Lg, checkE S M = 0 ↔ rightB M = true ∧ total (sums M) = 0 ∧ ∀ g ∈ M, legE S g = 0 := by
    intro M
    unfold checkE
    cases hb : rightB M with
    | false => simp
    | true =>
      have hd : (M.map Lg.nm).Nodup := by
        unfold rightB at hb
        simp only [Bool.and_eq_true, decide_eq_true_eq] at hb
        exact hb.2
      by_cases h0 : total (sums M) = 0
      · simp only [h0, Bool.true_eq_false, if_false, if_true, true_and]
        exact legs_each S M S hd (fun _ _ => rfl)
      · simp [h0]
  have hiff : checkE S L = 0 ↔ checkE S R = 0 := by
    rw [key L, key R, hr, ht]
    exact ⟨fun h => ⟨h.1, h.2.1, fun g hg => h.2.2 g (hp.mem_iff.2 hg)⟩, fun h => ⟨h.1, h.2.1, fun g hg => h.2.2 g (hp.mem_iff.1 hg)⟩⟩
  refine ⟨hiff, ?_⟩
  unfold makeS
  by_cases h0 : checkE S L = 0
  · rw [if_pos h0, if_pos (hiff.1 h0)]
    have hL := (key L).1 h0
    have hR := (key R).1 (hiff.1 h0)
    have nd : ∀ M : List Lg, rightB M = true → (M.map Lg.nm).Nodup := fun M hb => by
      unfold rightB at hb
      simp only [Bool.and_eq_true, decide_eq_true_eq] at hb
      exact hb.2
    refine rise_ext _ _ (inv_legs hI L).rise (inv_legs hI R).rise fun k => ?_
    rw [legs_get S L S (nd L hL.1) (fun _ _ => rfl) hL.2.2 k, legs_get S R S (nd R hR.1) (fun _ _ => rfl) hR.2.2 k, find_perm hp (nd L hL.1) k]
  · rw [if_neg h0, if_neg (fun h => h0 (hiff.2 h))]
end Go.Proofs.YtgklifbfbjdobaaGreat
