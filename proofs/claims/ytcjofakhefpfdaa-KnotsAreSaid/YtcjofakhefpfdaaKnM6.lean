/- A graph's knots told by its ways; which names wait for which (of no program but the rows' names). -/
import Derived.Test.YtcjofakhefpfdaaKnM1
import Derived.Test.YtcjofakhefpfdaaKnM3
import Derived.Test.YtcjofakhefpfdaaKnM4
namespace Go.Proofs.Ytcjofakhefpfdaa
open Go.My Go.My.Kn
set_option linter.unusedSimpArgs false
set_option linter.unusedVariables false

/-- who reaches whom -/
def via' (G : List (List Int)) : Nat → Nat → Bool := via (stp G) G.length
theorem vtr (G : List (List Int)) (i j : Nat) : via' G i j = true ↔ Tr (stp G) i j := tr_via (stp_lt G)
theorem reachR (G : List (List Int)) : ReachR G.length (stp G) (via' G) where
  tr i j k h1 h2 := (vtr G i k).2 (((vtr G i j).1 h1).trans ((vtr G j k).1 h2))
  lt i j h := by
    have h' := (vtr G i j).1 h
    clear h
    induction h' with
    | one h => exact stp_lt G _ _ h
    | more _ h2 ih => exact ⟨ih.1, (stp_lt G _ _ h2).2⟩
  one i j h := (vtr G i j).2 (.one h)
  ind i P h1 h2 k hk := by
    have hk' := (vtr G i k).1 hk
    clear hk
    induction hk' with
    | one h => exact h1 _ h
    | more h3 h4 ih => exact h2 _ _ ((vtr G i _).2 h3) ih h4
/-- the graph as rows of places -/
def gn (G : List (List Int)) (v : Nat) : List Nat := (gat (propG G) v).map Int.toNat
theorem gn_mem (G : List (List Int)) (v y : Nat) : y ∈ gn G v ↔ stp G v y = true := by
  unfold gn
  rw [List.mem_map]
  constructor
  · rintro ⟨x, hx, rfl⟩
    obtain ⟨j, rfl, hj⟩ := (propG_mem G v x).1 hx
    exact hj
  · intro h
    exact ⟨(y : Int), (propG_mem G v y).2 ⟨y, rfl, h⟩, rfl⟩
theorem rch_iff (G : List (List Int)) (a b : Nat) : Rch (gn G) a b ↔ a = b ∨ via' G a b = true := by
  constructor
  · intro h
    induction h with
    | refl => exact .inl rfl
    | step _ he ih =>
      have he := (gn_mem G _ _).1 he
      right
      rcases ih with rfl | ih
      · exact (reachR G).one _ _ he
      · exact (reachR G).tr _ _ _ ih ((reachR G).one _ _ he)
  · rintro (rfl | h)
    · exact .refl
    · have h' := (vtr G a b).1 h
      clear h
      induction h' with
      | one h => exact .one ((gn_mem G _ _).2 h)
      | more _ h2 ih => exact .step ih ((gn_mem G _ _).2 h2)
theorem both_iff (G : List (List Int)) (a b : Nat) : Both (gn G) a b ↔ mu (via' G) a b = true := by
  unfold Both
  rw [rch_iff, rch_iff, mu_iff]
  constructor
  · rintro ⟨h1, h2⟩
    rcases h1 with rfl | h1
    · exact .inl rfl
    · rcases h2 with rfl | h2
      · exact .inl rfl
      · exact .inr ⟨h1, h2⟩
  · rintro (rfl | ⟨h1, h2⟩)
    · exact ⟨.inl rfl, .inl rfl⟩
    · exact ⟨.inr h1, .inr h2⟩
/-- two lists that rise and hold the same are the same -/
theorem up_eq : ∀ {l m : List Nat}, l.Pairwise (· < ·) → m.Pairwise (· < ·) → (∀ x, x ∈ l ↔ x ∈ m) → l = m
  | [], [], _, _, _ => rfl
  | [], b :: m, _, _, h => by have := (h b).2 List.mem_cons_self; cases this
  | a :: l, [], _, _, h => by have := (h a).1 List.mem_cons_self; cases this
  | a :: l, b :: m, h1, h2, h => by
    rw [List.pairwise_cons] at h1 h2
    have e : a = b := by
      have p := (h a).1 List.mem_cons_self
      have q := (h b).2 List.mem_cons_self
      rcases List.mem_cons.1 p with p | p
      · exact p
      · rcases List.mem_cons.1 q with q | q
        · exact q.symm
        · have := h1.1 b q; have := h2.1 a p; omega
    subst e
    rw [up_eq h1.2 h2.2 fun x => ?_]
    constructor
    · intro hx
      rcases List.mem_cons.1 ((h x).1 (List.mem_cons_of_mem _ hx)) with e | e
      · subst e; have := h1.1 x hx; omega
      · exact e
    · intro hx
      rcases List.mem_cons.1 ((h x).2 (List.mem_cons_of_mem _ hx)) with e | e
      · subst e; have := h2.1 x hx; omega
      · exact e
theorem knot_cls {G : List (List Int)} {K : List Nat} (h : IsKnot (gn G) K) {x : Nat} (hx : x ∈ K) (hn : ∀ y ∈ K, y < G.length) : K = cls G.length (via' G) x := by
  refine up_eq h.up (cls_up _) fun y => ?_
  rw [h.all x hx y, both_iff, mem_cls]
  refine ⟨fun hm => ⟨?_, hm⟩, fun h => h.2⟩
  have : y ∈ K := (h.all x hx y).2 ((both_iff G x y).2 hm)
  exact hn y this
/-- the least of a knot is its name -/
theorem knot_head {G : List (List Int)} {K : List Nat} (h : IsKnot (gn G) K) (hn : ∀ y ∈ K, y < G.length) : ∃ a r, K = a :: r ∧ ∀ x ∈ K, nm G.length (via' G) x = a ∧ K = cls G.length (via' G) x := by
  cases hK : K with
  | nil => exact absurd hK h.ne
  | cons a r =>
    refine ⟨a, r, rfl, fun x hx => ?_⟩
    rw [← hK] at hx
    have := knot_cls h hx hn
    rw [← hK]
    refine ⟨?_, this⟩
    unfold nm
    rw [← this, hK]; rfl
/-- the rows of names that a name waits for -/
def betF (G : List (List Int)) (i j a : Nat) : List Nat :=
  ((List.range i).flatMap fun u => if nm G.length (via' G) u = a then ((gn G u).filter fun v => nm G.length (via' G) v != a).map (nm G.length (via' G)) else []) ++
    (if nm G.length (via' G) i = a then (((gn G i).take j).filter fun v => nm G.length (via' G) v != a).map (nm G.length (via' G)) else [])
def betG (G : List (List Int)) (a : Nat) : List Nat := betF G G.length 0 a
theorem betG_ok (G : List (List Int)) : BtOk G.length (stp G) (via' G) (betG G) where
  src a b hb := by
    unfold betG betF at hb
    rw [List.mem_append] at hb
    rcases hb with hb | hb
    · obtain ⟨u, hu, hb⟩ := List.mem_flatMap.1 hb
      rw [List.mem_range] at hu
      split at hb
      · rename_i e
        obtain ⟨v, hv, rfl⟩ := List.mem_map.1 hb
        obtain ⟨hv1, hv2⟩ := List.mem_filter.1 hv
        exact ⟨u, v, hu, e, rfl, (gn_mem G u v).1 hv1, fun e2 => by rw [← e2] at hv2; simp at hv2⟩
      · cases hb
    · rw [List.take_zero] at hb
      split at hb <;> cases hb
  all u v huv hne := by
    unfold betG betF
    refine List.mem_append_left _ (List.mem_flatMap.2 ⟨u, List.mem_range.2 (stp_lt G u v huv).1, ?_⟩)
    rw [if_pos rfl]
    exact List.mem_map.2 ⟨v, List.mem_filter.2 ⟨(gn_mem G u v).2 huv, by simpa using fun e => hne e.symm⟩, rfl⟩
theorem betF_zero (G : List (List Int)) (a : Nat) : betF G 0 0 a = [] := by
  unfold betF; rw [List.take_zero]; simp
theorem betF_next (G : List (List Int)) (i a : Nat) : betF G i (gn G i).length a = betF G (i + 1) 0 a := by
  unfold betF
  rw [List.range_succ, List.flatMap_append, List.take_length, List.take_zero]
  simp
theorem betF_push {G : List (List Int)} {i j : Nat} (hj : j < (gn G i).length) (a : Nat) :
    betF G i (j + 1) a = if nm G.length (via' G) i = a ∧ nm G.length (via' G) (gn G i)[j] ≠ a then betF G i j a ++ [nm G.length (via' G) (gn G i)[j]] else betF G i j a := by
  unfold betF
  by_cases e : nm G.length (via' G) i = a
  · rw [if_pos e, if_pos e, List.take_succ_eq_append_getElem hj, List.filter_append, List.map_append]
    by_cases e2 : nm G.length (via' G) (gn G i)[j] = a
    · rw [if_neg (fun h => h.2 e2)]
      have : [(gn G i)[j]].filter (fun v => nm G.length (via' G) v != a) = [] := by simp [e2]
      rw [this]; simp
    · rw [if_pos ⟨e, e2⟩]
      have : [(gn G i)[j]].filter (fun v => nm G.length (via' G) v != a) = [(gn G i)[j]] := by simp [e2]
      rw [this, ← List.append_assoc]; simp
  · rw [if_neg e, if_neg e, if_neg (fun h => e h.1)]
end Go.Proofs.Ytcjofakhefpfdaa
