/- All knots stand in the row, each once; the graph turned round (lists). -/
import Derived.Test.YtcjofakhefpfdaaKnLR
namespace Go.Proofs.Ytcjofakhefpfdaa
open Go.RowKit Go.My Go.My.Kn Go.Maps
set_option linter.unusedSimpArgs false
set_option linter.unusedVariables false

section
variable {n : Nat} {V : Nat → Nat → Bool}
theorem filter_le {p q : Nat → Bool} : ∀ {l : List Nat}, (∀ x ∈ l, p x = true → q x = true) → (l.filter p).length ≤ (l.filter q).length
  | [], _ => Nat.le_refl _
  | b :: l, h => by
    have ih := filter_le (l := l) fun x hx => h x (List.mem_cons_of_mem _ hx)
    have hb := h b List.mem_cons_self
    rw [List.filter_cons, List.filter_cons]
    cases hp : p b with
    | false => cases hq : q b <;> simp <;> omega
    | true => rw [hb hp]; simp; omega
theorem filter_lt {p q : Nat → Bool} : ∀ {l : List Nat} {a : Nat}, (∀ x ∈ l, p x = true → q x = true) → a ∈ l → q a = true → p a = false → (l.filter p).length < (l.filter q).length
  | [], a, _, ha, _, _ => by cases ha
  | b :: l, a, h, ha, hq, hp => by
    have hle := filter_le (l := l) fun x hx => h x (List.mem_cons_of_mem _ hx)
    have hb := h b List.mem_cons_self
    rw [List.filter_cons, List.filter_cons]
    by_cases e : a = b
    · subst e; rw [hq, hp]; simp; omega
    · have ih := filter_lt (l := l) (fun x hx => h x (List.mem_cons_of_mem _ hx)) ((List.mem_cons.1 ha).resolve_left e) hq hp
      cases hpb : p b with
      | false => cases hqb : q b <;> simp <;> omega
      | true => rw [hb hpb]; simp; omega
/-- a place, and all that it reaches -/
def rs (n : Nat) (V : Nat → Nat → Bool) (i : Nat) : List Nat := (List.range n).filter fun j => j == i || V i j
theorem rs_less (h : Go.My.Kn.Reach n V) {i k : Nat} (hi : i < n) (h1 : V i k = true) (h2 : V k i = false) : (rs n V k).length < (rs n V i).length := by
  have hne : i ≠ k := fun e => by subst e; rw [h1] at h2; cases h2
  refine filter_lt (a := i) (fun j _ hj => ?_) (List.mem_range.2 hi) (by simp) (by simp [hne, h2])
  simp only [Bool.or_eq_true, beq_iff_eq] at hj ⊢
  rcases hj with rfl | e
  · exact .inr h1
  · exact .inr (h.tr _ _ _ h1 e)
/-- where one is left, one is free -/
theorem free_ex (h : Go.My.Kn.Reach n V) {D : List Nat} : ∀ (m i : Nat), (rs n V i).length ≤ m → i < n → nm n V i ∉ D → ∃ j, Free n V D j
  | 0, i, hm, hi, _ => by
    have hiM : i ∈ rs n V i := by unfold rs; rw [List.mem_filter]; exact ⟨List.mem_range.2 hi, by simp⟩
    have := List.length_pos_of_mem hiM
    omega
  | m + 1, i, hm, hi, hD => by
    by_cases hf : ∀ k, V i k = true → V k i = false → nm n V k ∈ D
    · exact ⟨i, hi, hD, hf⟩
    · obtain ⟨k, hk⟩ := Classical.not_forall.1 hf
      obtain ⟨h1, hk⟩ := Classical.not_imp.1 hk
      obtain ⟨h2, h3⟩ := Classical.not_imp.1 hk
      exact free_ex h m k (by have := rs_less h hi h1 h2; omega) (h.lt _ _ h1).2 h3
theorem nm_cls_eq {i j : Nat} (hi : i < n) (hj : j < n) (h : cls n V i = cls n V j) : nm n V i = nm n V j := by
  unfold nm
  rw [h]
  have hs := self_cls (V := V) hj
  cases hc : cls n V j with
  | nil => rw [hc] at hs; cases hs
  | cons a r => rfl
/-- the row holds each knot that is left, once -/
theorem knseq_all (h : Go.My.Kn.Reach n V) {D : List Nat} {L : List (List Nat)} (k : KnSeq n V D L) : (∀ K ∈ L, ∃ i, i < n ∧ nm n V i ∉ D ∧ K = cls n V i) ∧ (∀ i, i < n → nm n V i ∉ D → cls n V i ∈ L) ∧ L.Nodup := by
  induction k with
  | nil hno =>
    refine ⟨fun K hK => (by cases hK), fun i hi hD => ?_, List.nodup_nil⟩
    obtain ⟨j, hj⟩ := free_ex h _ i (Nat.le_refl _) hi hD
    exact absurd hj (hno j)
  | @cons D L a hf hl hk ih =>
    have hn := least_name h hf hl
    obtain ⟨h1, h2, h3⟩ := ih
    refine ⟨fun K hK => ?_, fun i hi hD => ?_, List.nodup_cons.2 ⟨fun hm => ?_, h3⟩⟩
    · rcases List.mem_cons.1 hK with rfl | hK
      · exact ⟨a, hf.1, hf.2.1, rfl⟩
      · obtain ⟨i, hi, hD, e⟩ := h1 K hK
        exact ⟨i, hi, fun e2 => hD (List.mem_cons_of_mem _ e2), e⟩
    · by_cases e : nm n V i = a
      · have hm : mu V a i = true := (nm_eq h hf.1 hi).1 (by rw [hn, e])
        rw [← cls_eq h hm]
        exact List.mem_cons_self
      · exact List.mem_cons_of_mem _ (h2 i hi fun hm => by
          rcases List.mem_cons.1 hm with e2 | e2
          · exact e e2
          · exact hD e2)
    · obtain ⟨i, hi, hD, e⟩ := h1 _ hm
      have e2 := nm_cls_eq hf.1 hi e
      rw [hn] at e2
      exact hD (by rw [← e2]; exact List.mem_cons_self)
end
/-! ### the graph turned round -/
theorem stp_back (G : List (List Int)) (i j : Nat) : stp (usersG G) i j = true ↔ stp G j i = true := by
  have hl : (usersG G).length = G.length := rows_length _ _
  rw [stp_iff, stp_iff, hl, usersG_mem]
  constructor
  · rintro ⟨h1, h2, _, a, ha, e, h3⟩
    obtain rfl : j = a := by omega
    exact ⟨h2, h1, h3⟩
  · rintro ⟨h1, h2, h3⟩
    exact ⟨h2, h1, h2, j, h1, rfl, h3⟩
/-- ways turned round -/
theorem tr_back {G : List (List Int)} {i j : Nat} : Tr (stp (usersG G)) i j ↔ Tr (stp G) j i := by
  constructor
  · intro h
    induction h with
    | one h => exact .one ((stp_back G _ _).1 h)
    | more _ h ih => exact Tr.head ((stp_back G _ _).1 h) ih
  · intro h
    induction h with
    | one h => exact .one ((stp_back G _ _).2 h)
    | more _ h ih => exact Tr.head ((stp_back G _ _).2 h) ih
theorem via_back (G : List (List Int)) (i j : Nat) : via' (usersG G) i j = via' G j i := by
  rw [Bool.eq_iff_iff, vtr, vtr, tr_back]
theorem cls_back (G : List (List Int)) (n i : Nat) : cls n (via' (usersG G)) i = cls n (via' G) i := by
  unfold cls
  apply List.filter_congr
  intro k _
  unfold mu
  rw [via_back, via_back, Bool.and_comm]
theorem nm_back (G : List (List Int)) (n i : Nat) : nm n (via' (usersG G)) i = nm n (via' G) i := by unfold nm; rw [cls_back]
/-- the same knots, each once, here and there -/
theorem knots_back {G : List (List Int)} {L M : List (List Nat)} (hL : KnSeq G.length (via' G) [] L) (hM : KnSeq G.length (via' (usersG G)) [] M) : L.Nodup ∧ M.Nodup ∧ (∀ K, K ∈ L ↔ K ∈ M) ∧ L.length = M.length := by
  obtain ⟨a1, a2, a3⟩ := knseq_all (reachR G).toReach hL
  have hr := (reachR (usersG G)).toReach
  rw [usersG_len] at hr
  obtain ⟨b1, b2, b3⟩ := knseq_all hr hM
  have hmem : ∀ K, K ∈ L ↔ K ∈ M := fun K => by
    constructor
    · intro hK
      obtain ⟨i, hi, _, rfl⟩ := a1 K hK
      rw [← cls_back]
      exact b2 i hi (by simp)
    · intro hK
      obtain ⟨i, hi, _, rfl⟩ := b1 K hK
      rw [cls_back]
      exact a2 i hi (by simp)
  refine ⟨a3, b3, hmem, ?_⟩
  exact ((List.perm_ext_iff_of_nodup a3 b3).2 hmem).length_eq
end Go.Proofs.Ytcjofakhefpfdaa
