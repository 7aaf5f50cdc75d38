/- Where a place stands in the row of knots; ways lead to knots that stand no later; what KnotsWhole notes down (lists). -/
import Derived.Test.YtcjofakhefpfdaaKnM8
namespace Go.Proofs.Ytcjofakhefpfdaa
open Go.RowKit Go.My Go.My.Kn Go.Maps
set_option linter.unusedSimpArgs false
set_option linter.unusedVariables false

/-- the place in the row of the knot that holds p (its length, if none does) -/
def ix : List (List Nat) → Nat → Nat
  | [], _ => 0
  | K :: L, p => if p ∈ K then 0 else ix L p + 1
theorem ix_le : ∀ (L : List (List Nat)) (p : Nat), ix L p ≤ L.length
  | [], _ => Nat.le_refl _
  | K :: L, p => by
    unfold ix
    have := ix_le L p
    split <;> simp <;> omega
theorem ix_in : ∀ {L : List (List Nat)} {p i : Nat} (hi : i < L.length), p ∈ L[i] → ix L p ≤ i
  | [], _, i, hi, _ => absurd hi (Nat.not_lt_zero _)
  | K :: L, p, 0, _, h => by unfold ix; rw [if_pos (by simpa using h)]; exact Nat.le_refl _
  | K :: L, p, i + 1, hi, h => by
    unfold ix
    have := ix_in (L := L) (p := p) (i := i) (by simpa using hi) (by simpa using h)
    split <;> omega
theorem ix_mem : ∀ {L : List (List Nat)} {p : Nat} (h : ix L p < L.length), p ∈ L[ix L p]
  | [], _, h => absurd h (Nat.not_lt_zero _)
  | K :: L, p, h => by
    by_cases e : p ∈ K
    · have h0 : ix (K :: L) p = 0 := by unfold ix; rw [if_pos e]
      simp only [h0, List.getElem_cons_zero]; exact e
    · have h0 : ix (K :: L) p = ix L p + 1 := by conv => lhs; unfold ix
                                                 rw [if_neg e]
      have hl : ix L p < L.length := by rw [h0] at h; simpa using h
      simp only [h0, List.getElem_cons_succ]
      exact ix_mem hl

section
variable {n : Nat} {V : Nat → Nat → Bool}
/-- ways lead to knots that stand no later -/
theorem knseq_ord (h : Go.My.Kn.Reach n V) {D : List Nat} {L : List (List Nat)} (k : KnSeq n V D L) {i p : Nat} (hi : i < n) (hp : p < n) (ni : nm n V i ∉ D) (np : nm n V p ∉ D) (v : V i p = true) : ix L p ≤ ix L i := by
  induction k with
  | nil hno => exact Nat.le_refl _
  | @cons D L a hf hl hk ih =>
    have hn := least_name h hf hl
    by_cases ep : p ∈ cls n V a
    · unfold ix; rw [if_pos ep]; exact Nat.zero_le _
    · have ei : i ∉ cls n V a := fun ei => by
        have hai := ((mu_iff _ _).1 ((mem_cls _ _).1 ei).2)
        have hap : V a p = true := by
          rcases hai with rfl | ⟨h1, h2⟩
          · exact v
          · exact h.tr _ _ _ h1 v
        by_cases hpa : V p a = true
        · exact ep ((mem_cls _ _).2 ⟨hp, (mu_iff _ _).2 (.inr ⟨hap, hpa⟩)⟩)
        · exact np (hf.2.2 p hap (by simpa using hpa))
      have nn : ∀ {q : Nat}, q < n → q ∉ cls n V a → nm n V q ∉ D → nm n V q ∉ a :: D := fun {q} hq e1 e2 e3 => by
        rcases List.mem_cons.1 e3 with e4 | e4
        · have hm : mu V a q = true := (nm_eq h hf.1 hq).1 (by rw [hn, e4])
          exact e1 ((mem_cls _ _).2 ⟨hq, hm⟩)
        · exact e2 e4
      have := ih (nn hi ei ni) (nn hp ep np)
      unfold ix
      rw [if_neg ep, if_neg ei]
      omega
end

section
variable {G : List (List Int)} {L : List (List Nat)}
/-- the row of knots, as KnotsWhole reads it -/
structure WholeF (G : List (List Int)) (L : List (List Nat)) : Prop where
  up : ∀ K ∈ L, K.Pairwise (· < ·)
  lt : ∀ K ∈ L, ∀ p ∈ K, p < G.length
  ne : ∀ K ∈ L, K ≠ []
  two : ∀ K ∈ L, ∀ p ∈ K, ∀ q ∈ K, p ≠ q → via' G p q = true
  here : ∀ i (hi : i < L.length), ∀ p ∈ L[i], ix L p = i
  all : ∀ p, p < G.length → ix L p < L.length
  ord : ∀ i p, i < G.length → p < G.length → via' G i p = true → ix L p ≤ ix L i
  len : L.flatten.length = G.length
theorem whole_of (hL : KnSeq G.length (via' G) [] L) : WholeF G L := by
  have hr := (reachR G).toReach
  obtain ⟨a1, a2, a3⟩ := knseq_all hr hL
  have hup : ∀ K ∈ L, K.Pairwise (· < ·) := fun K hK => by obtain ⟨i, _, _, rfl⟩ := a1 K hK; exact cls_up _
  have hlt : ∀ K ∈ L, ∀ p ∈ K, p < G.length := fun K hK p hp => by obtain ⟨i, _, _, rfl⟩ := a1 K hK; exact ((mem_cls _ _).1 hp).1
  have hcl : ∀ K ∈ L, ∀ p ∈ K, K = cls G.length (via' G) p := fun K hK p hp => by
    obtain ⟨i, _, _, rfl⟩ := a1 K hK
    exact cls_eq hr ((mem_cls _ _).1 hp).2
  have hall : ∀ p, p < G.length → ix L p < L.length := fun p hp => by
    obtain ⟨i, hi, e⟩ := List.getElem_of_mem (a2 p hp (by simp))
    have := ix_in hi (p := p) (by rw [e]; exact self_cls hp)
    omega
  have hhere : ∀ i (hi : i < L.length), ∀ p ∈ L[i], ix L p = i := fun i hi p hp => by
    have h1 := ix_in hi hp
    have h2 : ix L p < L.length := by omega
    have h3 := ix_mem h2
    have e1 := hcl _ (List.getElem_mem hi) p hp
    have e2 := hcl _ (List.getElem_mem h2) p h3
    exact (List.getElem_inj a3).1 (e2.trans e1.symm)
  refine ⟨hup, hlt, fun K hK e => ?_, fun K hK p hp q hq hne => ?_, hhere, hall, fun i p hi hp v => knseq_ord hr hL hi hp (by simp) (by simp) v, ?_⟩
  · obtain ⟨i, hi, _, rfl⟩ := a1 K hK
    have := self_cls (V := via' G) hi
    rw [e] at this; cases this
  · rw [hcl K hK p hp] at hq
    rcases (mu_iff _ _).1 ((mem_cls _ _).1 hq).2 with e | ⟨h1, _⟩
    · exact absurd e.symm hne
    · exact h1
  · have hnd : L.flatten.Nodup := by
      refine List.pairwise_flatten.2 ⟨fun K hK => (hup K hK).imp fun h => by omega, ?_⟩
      rw [List.pairwise_iff_getElem]
      intro i j hi hj hij p hp q hq e
      subst e
      have e1 := hhere i hi p hp
      have e2 := hhere j hj p hq
      omega
    have hm : ∀ p, p ∈ L.flatten ↔ p ∈ List.range G.length := fun p => by
      rw [List.mem_flatten, List.mem_range]
      constructor
      · rintro ⟨K, hK, hp⟩; exact hlt K hK p hp
      · intro hp; exact ⟨_, a2 p hp (by simp), self_cls hp⟩
    rw [((List.perm_ext_iff_of_nodup hnd List.nodup_range).2 hm).length_eq, List.length_range]
/-- what is noted at p, when the first k places of knot i have been read -/
def sn (L : List (List Nat)) (i k p : Nat) : Nat := if ix L p < i then ix L p + 1 else if ix L p = i ∧ p ∈ ((L[i]?).getD []).take k then i + 1 else 0
theorem sn_zero (L : List (List Nat)) (p : Nat) : sn L 0 0 p = 0 := by unfold sn; simp
theorem sn_fresh (w : WholeF G L) {i k : Nat} (hi : i < L.length) (hk : k < L[i].length) : sn L i k L[i][k] = 0 := by
  unfold sn
  rw [w.here i hi _ (List.getElem_mem hk), if_neg (Nat.lt_irrefl _), if_neg]
  rintro ⟨_, h⟩
  rw [List.getElem?_eq_getElem hi] at h
  obtain ⟨m, hm, e⟩ := List.mem_take_iff_getElem.1 h
  have := List.pairwise_iff_getElem.1 (w.up _ (List.getElem_mem hi)) m k (by simp at hm; omega) hk (by omega)
  simp only [Option.getD_some] at e
  omega
theorem sn_put (w : WholeF G L) {i k : Nat} (hi : i < L.length) (hk : k < L[i].length) (p : Nat) : sn L i (k + 1) p = if p = L[i][k] then i + 1 else sn L i k p := by
  by_cases e : p = L[i][k]
  · subst e
    rw [if_pos rfl]
    unfold sn
    rw [w.here i hi _ (List.getElem_mem hk), if_neg (Nat.lt_irrefl _), if_pos]
    refine ⟨rfl, ?_⟩
    rw [List.getElem?_eq_getElem hi]
    exact List.mem_take_iff_getElem.2 ⟨k, by simp; omega, rfl⟩
  · rw [if_neg e]
    unfold sn
    have hm : p ∈ (L[i]).take (k + 1) ↔ p ∈ (L[i]).take k := by
      rw [List.take_add_one, List.getElem?_eq_getElem hk, List.mem_append]
      exact ⟨fun h => h.resolve_right fun h => e (List.mem_singleton.1 h), .inl⟩
    rw [List.getElem?_eq_getElem hi, Option.getD_some]
    simp only [hm]
theorem sn_next (w : WholeF G L) {i : Nat} (hi : i < L.length) (p : Nat) : sn L (i + 1) 0 p = sn L i L[i].length p := by
  unfold sn
  rw [List.getElem?_eq_getElem hi, Option.getD_some, List.take_length]
  by_cases h1 : ix L p < i
  · rw [if_pos h1, if_pos (by omega)]
  · by_cases h2 : ix L p = i
    · have hm : p ∈ L[i] := by
        have := ix_mem (L := L) (p := p) (by omega)
        simpa only [h2] using this
      rw [if_pos (by omega), if_neg h1, if_pos ⟨h2, hm⟩, h2]
    · rw [if_neg (by omega), if_neg (by simp), if_neg h1, if_neg fun h => h2 h.1]
theorem sn_last (w : WholeF G L) {p : Nat} (hp : p < G.length) : sn L L.length 0 p = ix L p + 1 := by
  unfold sn
  rw [if_pos (w.all p hp)]
/-- how many have been read -/
def cn (L : List (List Nat)) (i : Nat) : Nat := (L.take i).flatten.length
theorem cn_next {i : Nat} (hi : i < L.length) : cn L (i + 1) = cn L i + L[i].length := by
  unfold cn
  rw [List.take_add_one, List.getElem?_eq_getElem hi, List.flatten_append, List.length_append]
  simp only [Option.toList_some, List.flatten_cons, List.flatten_nil, List.append_nil]
theorem cn_last (w : WholeF G L) : cn L L.length = G.length := by
  unfold cn
  rw [List.take_length, w.len]
theorem cn_le (w : WholeF G L) (i : Nat) : cn L i ≤ G.length := by
  rw [← w.len]
  unfold cn
  conv => rhs; rw [← List.take_append_drop i L]
  rw [List.flatten_append, List.length_append]
  exact Nat.le_add_right _ _
theorem cn_ge (w : WholeF G L) : ∀ i, i ≤ L.length → i ≤ cn L i
  | 0, _ => Nat.zero_le _
  | i + 1, h => by
    rw [cn_next h]
    have h1 := cn_ge w i (by omega)
    have h2 := List.length_pos_iff.2 (w.ne _ (List.getElem_mem h))
    omega
end
end Go.Proofs.Ytcjofakhefpfdaa
