/- All knots in order: which names wait for which (lists). -/
import Derived.Test.YtcjofakhefpfdaaKnK0
namespace Go.Proofs.Ytcjofakhefpfdaa
open Go.RowKit Go.My Go.My.Hp Go.My.Kn Go.Maps
set_option linter.unusedSimpArgs false
set_option linter.unusedVariables false

def betR (G : List (List Int)) (i j : Nat) : List (List Int) := rows (fun a => il (betF G i j a)) G.length
def betW (G : List (List Int)) (i j : Nat) : Nat → Nat := fun a => (betF G i j a).length
theorem betR_zero (G : List (List Int)) : betR G 0 0 = List.replicate G.length [] := by
  rw [← rows_nil]
  exact rows_congr fun k _ => by rw [betF_zero]; rfl
theorem betW_zero (G : List (List Int)) : betW G 0 0 = fun _ => 0 := funext fun a => by unfold betW; rw [betF_zero]; rfl
theorem betR_next (G : List (List Int)) (i : Nat) : betR G i (gn G i).length = betR G (i + 1) 0 := rows_congr fun k _ => by rw [betF_next]
theorem betW_next (G : List (List Int)) (i : Nat) : betW G i (gn G i).length = betW G (i + 1) 0 := funext fun a => by unfold betW; rw [betF_next]
section
variable {G : List (List Int)} {i j : Nat}
theorem betR_push (hj : j < (gn G i).length) (hne : nm G.length (via' G) i ≠ nm G.length (via' G) (gn G i)[j]) :
    (betR G i j).set (nm G.length (via' G) i) (il (betF G i j (nm G.length (via' G) i)) ++ [(nm G.length (via' G) (gn G i)[j] : Int)]) = betR G i (j + 1) := by
  unfold betR
  rw [rows_set]
  refine rows_congr fun b _ => ?_
  rw [betF_push hj]
  by_cases e : b = nm G.length (via' G) i
  · subst e
    rw [if_pos rfl, if_pos ⟨rfl, fun e => hne e.symm⟩]
    unfold il
    rw [List.map_append]; rfl
  · rw [if_neg e, if_neg (fun h => e h.1.symm)]
theorem betW_push (hj : j < (gn G i).length) (hne : nm G.length (via' G) i ≠ nm G.length (via' G) (gn G i)[j]) :
    upN (betW G i j) (nm G.length (via' G) i) (betW G i j (nm G.length (via' G) i) + 1) = betW G i (j + 1) := by
  funext b
  by_cases e : b = nm G.length (via' G) i
  · subst e
    rw [upN_at]
    unfold betW
    rw [betF_push hj, if_pos ⟨rfl, fun e => hne e.symm⟩, List.length_append]; rfl
  · rw [upN_ne _ _ e]
    unfold betW
    rw [betF_push hj, if_neg (fun h => e h.1.symm)]
theorem bet_skip (hj : j < (gn G i).length) (he : nm G.length (via' G) i = nm G.length (via' G) (gn G i)[j]) (b : Nat) : betF G i (j + 1) b = betF G i j b := by
  rw [betF_push hj, if_neg (fun h => h.2 (by rw [← h.1]; exact he.symm))]
theorem betR_skip (hj : j < (gn G i).length) (he : nm G.length (via' G) i = nm G.length (via' G) (gn G i)[j]) : betR G i j = betR G i (j + 1) := rows_congr fun b _ => by rw [bet_skip hj he]
theorem betW_skip (hj : j < (gn G i).length) (he : nm G.length (via' G) i = nm G.length (via' G) (gn G i)[j]) : betW G i j = betW G i (j + 1) := funext fun b => by unfold betW; rw [bet_skip hj he]
theorem betF_len {M : Nat} (hM : ∀ k, (gn G k).length ≤ M) (i j a : Nat) : (betF G i j a).length ≤ (i + 1) * M := by
  have h1 : ∀ i, ((List.range i).flatMap fun u => if nm G.length (via' G) u = a then ((gn G u).filter fun v => nm G.length (via' G) v != a).map (nm G.length (via' G)) else []).length ≤ i * M := by
    intro i
    induction i with
    | zero => simp
    | succ i ih =>
      rw [List.range_succ, List.flatMap_append, List.length_append]
      have h2 : (List.flatMap (fun u => if nm G.length (via' G) u = a then ((gn G u).filter fun v => nm G.length (via' G) v != a).map (nm G.length (via' G)) else []) [i]).length ≤ M := by
        rw [List.flatMap_cons, List.flatMap_nil, List.append_nil]
        split
        · rw [List.length_map]; exact Nat.le_trans (List.length_filter_le _ _) (hM i)
        · exact Nat.zero_le _
      rw [Nat.succ_mul]
      omega
  unfold betF
  rw [List.length_append, Nat.succ_mul]
  have h3 := h1 i
  have h4 : (if nm G.length (via' G) i = a then (((gn G i).take j).filter fun v => nm G.length (via' G) v != a).map (nm G.length (via' G)) else []).length ≤ M := by
    split
    · rw [List.length_map]
      exact Nat.le_trans (List.length_filter_le _ _) (Nat.le_trans (by rw [List.length_take]; omega) (hM i))
    · exact Nat.zero_le _
  omega
end
theorem betF_len0 {G : List (List Int)} {M : Nat} (hM : ∀ k, (gn G k).length ≤ M) (i a : Nat) : (betF G i 0 a).length ≤ i * M := by
  cases i with
  | zero => rw [betF_zero]; simp
  | succ i => rw [← betF_next]; exact betF_len hM i _ a
theorem betG_lt {G : List (List Int)} {a b : Nat} (h : b ∈ betG G a) : b < G.length := by
  obtain ⟨u, v, _, _, e, hr, _⟩ := (betG_ok G).src a b h
  rw [← e]
  exact nm_lt (stp_lt G u v hr).2
/-- who waits for a name, each as often as it waits -/
def usN (G : List (List Int)) (b : Nat) : List Nat := (List.range G.length).flatMap fun a => ((betG G a).filter fun x => x == b).map fun _ => a
theorem betG_far (G : List (List Int)) (x : Nat) (h : G.length ≤ x) : betG G x = [] := by
  unfold betG betF
  rw [List.take_zero]
  have : (List.range G.length).flatMap (fun u => if nm G.length (via' G) u = x then ((gn G u).filter fun v => nm G.length (via' G) v != x).map (nm G.length (via' G)) else []) = [] := by
    rw [List.flatMap_eq_nil_iff]
    intro u hu
    rw [List.mem_range] at hu
    have := nm_lt (V := via' G) hu
    rw [if_neg (by omega)]
  rw [this]
  simp
theorem usN_count (G : List (List Int)) (b x : Nat) : (usN G b).count x = (betG G x).count b := by
  have key : ∀ m, ((List.range m).flatMap fun a => ((betG G a).filter fun y => y == b).map fun _ => a).count x = if x < m then (betG G x).count b else 0 := by
    intro m
    induction m with
    | zero => simp
    | succ m ih =>
      rw [List.range_succ, List.flatMap_append, List.count_append, ih, List.flatMap_cons, List.flatMap_nil, List.append_nil]
      have h1 : (((betG G m).filter fun y => y == b).map fun _ => m).count x = if x = m then (betG G m).count b else 0 := by
        by_cases e : x = m
        · subst e
          rw [if_pos rfl, List.map_const', List.count_replicate_self, ← List.countP_eq_length_filter]; rfl
        · rw [if_neg e, List.map_const', List.count_replicate, if_neg (by simpa using fun h => e h.symm)]
      rw [h1]
      by_cases e : x = m
      · subst e; rw [if_neg (Nat.lt_irrefl _), if_pos rfl, if_pos (Nat.lt_succ_self _)]; omega
      · by_cases e2 : x < m
        · rw [if_pos e2, if_neg e, if_pos (by omega)]; rfl
        · rw [if_neg e2, if_neg e, if_neg (by omega)]
  unfold usN
  rw [key]
  by_cases h : x < G.length
  · rw [if_pos h]
  · rw [if_neg h, betG_far G x (by omega)]; rfl
theorem gat_rows' (f : Nat → List Int) {n k : Nat} (h : k < n) : gat (rows f n) k = f k := by
  rw [gat_at (by rw [rows_length]; exact h), rows_getE]
theorem users_us (G : List (List Int)) (b : Nat) (hb : b < G.length) : gat (usersG (betR G G.length 0)) b = il (usN G b) := by
  have hl : (betR G G.length 0).length = G.length := rows_length _ _
  unfold usersG
  rw [hl, gat_rows' _ hb]
  unfold usN il
  rw [List.map_flatMap]
  have : ∀ l : List Nat, (∀ a ∈ l, a < G.length) → l.flatMap (fun a => usA (betR G G.length 0) a (gat (betR G G.length 0) a) b) = l.flatMap fun a => (((betG G a).filter fun x => x == b).map fun _ => a).map fun (x : Nat) => (x : Int) := by
    intro l hl
    induction l with
    | nil => rfl
    | cons a l ih =>
      rw [List.flatMap_cons, List.flatMap_cons, ih fun x hx => hl x (List.mem_cons_of_mem _ hx)]
      congr 1
      have ha := hl a List.mem_cons_self
      unfold betR
      rw [gat_rows' _ ha]
      unfold usA il betG
      rw [List.filter_map, List.map_map, List.map_map]
      congr 1
      apply List.filter_congr
      intro x _
      show ((x : Int) == (b : Int)) = (x == b)
      rw [Bool.eq_iff_iff, beq_iff_eq, beq_iff_eq]
      omega
  exact this _ fun a ha => List.mem_range.1 ha
theorem usN_len {G : List (List Int)} {M : Nat} (hM : ∀ a, (betG G a).length ≤ M) (b : Nat) : (usN G b).length ≤ G.length * M := by
  unfold usN
  generalize G.length = m
  induction m with
  | zero => simp
  | succ m ih =>
    rw [List.range_succ, List.flatMap_append, List.length_append, List.flatMap_cons, List.flatMap_nil, List.append_nil, List.length_map, Nat.succ_mul]
    have := hM m
    have := List.length_filter_le (fun x => x == b) (betG G m)
    omega
/-- the heap is filled -/
theorem ki_start {G : List (List Int)} {H : List Nat} (hnd : H.Nodup) (hH : ∀ b, b ∈ H ↔ b < G.length ∧ nm G.length (via' G) b = b ∧ betW G G.length 0 b = 0) : KI G.length (via' G) (betG G) [] (betW G G.length 0) H (fun _ => 0) where
  shut := Shut.nil
  waits b _ _ _ := by
    unfold open_ betW betG
    rw [List.filter_eq_self.2 (fun x _ => by simp)]; rfl
  heap b := by
    rw [hH]
    simp
  once := hnd
end Go.Proofs.Ytcjofakhefpfdaa
