/- The document's table of who reaches whom: its rows. -/
import Derived.Test.YtcjofakhefpfdaaKnB
namespace Go.Proofs.Ytcjofakhefpfdaa
open Go.RowKit Go.My Go.Maps
set_option linter.unusedSimpArgs false
set_option linter.unusedVariables false
attribute [local go_sem ↓] Go.wp_at_zero Go.wp_at_succ

def marks (f : Nat → Bool) (n : Nat) : List Bool := (List.range n).map f
theorem marks_len (f : Nat → Bool) (n : Nat) : (marks f n).length = n := by simp [marks]
theorem marks_at (f : Nat → Bool) (n k : Nat) (h : k < (marks f n).length) : (marks f n)[k] = f k := by simp [marks]
theorem marks_congr {f g : Nat → Bool} {n : Nat} (h : ∀ k, k < n → f k = g k) : marks f n = marks g n := List.map_congr_left fun k hk => h k (by simpa using hk)
theorem marks_set (f : Nat → Bool) (n i : Nat) (b : Bool) : (marks f n).set i b = marks (fun k => if k = i then b else f k) n := by
  apply List.ext_getElem?
  intro k
  by_cases hk : k < n
  · by_cases e : k = i
    · subst e
      rw [List.getElem?_set_self (by rw [marks_len]; exact hk)]
      simp [marks, hk]
    · rw [List.getElem?_set_ne (fun e2 => e e2.symm)]
      simp [marks, hk, e]
  · rw [List.getElem?_eq_none (by rw [List.length_set, marks_len]; omega), List.getElem?_eq_none (by rw [marks_len]; omega)]
theorem marks_no (n : Nat) : bvs (marks (fun _ => false) n) = zrow n (.bool false) := by
  apply List.ext_getElem?
  intro k
  unfold bvs marks zrow
  by_cases h : k < n <;> simp [h]
/-- rows of marks by their numbers -/
def brows (f : Nat → List Bool) (n : Nat) : List (List Bool) := (List.range n).map f
theorem brows_len (f : Nat → List Bool) (n : Nat) : (brows f n).length = n := by simp [brows]
theorem brows_at (f : Nat → List Bool) (n k : Nat) (h : k < (brows f n).length) : (brows f n)[k] = f k := by simp [brows]
theorem brows_congr {f g : Nat → List Bool} {n : Nat} (h : ∀ k, k < n → f k = g k) : brows f n = brows g n := List.map_congr_left fun k hk => h k (by simpa using hk)
theorem brows_set (f : Nat → List Bool) (n i : Nat) (x : List Bool) : (brows f n).set i x = brows (fun k => if k = i then x else f k) n := by
  apply List.ext_getElem?
  intro k
  by_cases hk : k < n
  · by_cases e : k = i
    · subst e
      rw [List.getElem?_set_self (by rw [brows_len]; exact hk)]
      simp [brows, hk]
    · rw [List.getElem?_set_ne (fun e2 => e e2.symm)]
      simp [brows, hk, e]
  · rw [List.getElem?_eq_none (by rw [List.length_set, brows_len]; omega), List.getElem?_eq_none (by rw [brows_len]; omega)]

/-- the first loop: i rows done -/
def rA (G : List (List Int)) (i k : Nat) : List Bool := if k < i then marks (stp G k) G.length else []
/-- .. and j of the next row's numbers -/
def rB (G : List (List Int)) (i j k : Nat) : List Bool := if k < i then marks (stp G k) G.length else if k = i then marks (fun b => ((gat G i).take j).contains (b : Int)) G.length else []
theorem rA_zero (G : List (List Int)) : brows (rA G 0) G.length = List.replicate G.length [] := by
  apply List.ext_getElem?
  intro k
  by_cases hk : k < G.length <;> simp [brows, rA, hk]
theorem rA_open (G : List (List Int)) (i : Nat) : (brows (rA G i) G.length).set i (marks (fun _ => false) G.length) = brows (rB G i 0) G.length := by
  rw [brows_set]
  refine brows_congr fun k _ => ?_
  unfold rA rB
  by_cases e : k = i
  · subst e
    simp [marks]
  · rw [if_neg e, if_neg e]
theorem rB_skip {G : List (List Int)} {i j : Nat} (hj : j < (gat G i).length) (h : ¬ (0 ≤ (gat G i)[j] ∧ (gat G i)[j] < G.length)) : brows (rB G i j) G.length = brows (rB G i (j + 1)) G.length := by
  refine brows_congr fun k _ => ?_
  unfold rB
  by_cases e : k < i
  · rw [if_pos e, if_pos e]
  · rw [if_neg e, if_neg e]
    by_cases e2 : k = i
    · rw [if_pos e2, if_pos e2]
      refine marks_congr fun b hb => ?_
      rw [List.take_succ_eq_append_getElem hj]
      have : ¬ ((b : Int) = (gat G i)[j]) := by omega
      rw [Bool.eq_iff_iff]
      simp only [List.contains_iff_mem, List.mem_append, List.mem_singleton, this, or_false]
    · rw [if_neg e2, if_neg e2]
theorem rB_mark {G : List (List Int)} {i j t : Nat} (hj : j < (gat G i).length) (h : (gat G i)[j] = (t : Int)) (ht : t < G.length) : (brows (rB G i j) G.length).set i ((rB G i j i).set t true) = brows (rB G i (j + 1)) G.length := by
  rw [brows_set]
  refine brows_congr fun k _ => ?_
  unfold rB
  by_cases e : k = i
  · subst e
    rw [if_pos rfl, if_neg (by omega), if_pos rfl, if_neg (by omega), if_pos rfl, marks_set]
    refine marks_congr fun b hb => ?_
    rw [List.take_succ_eq_append_getElem hj, h]
    by_cases e2 : b = t
    · subst e2
      simp
    · have : ¬ ((b : Int) = (t : Int)) := by omega
      simp [e2, this]
  · rw [if_neg e, if_neg e, if_neg e]
theorem rB_next (G : List (List Int)) (i : Nat) (hi : i < G.length) : brows (rB G i (gat G i).length) G.length = brows (rA G (i + 1)) G.length := by
  refine brows_congr fun k _ => ?_
  unfold rA rB
  by_cases e : k < i
  · rw [if_pos e, if_pos (by omega)]
  · rw [if_neg e]
    by_cases e2 : k = i
    · subst e2
      rw [if_pos rfl, if_pos (by omega), List.take_length]
      refine marks_congr fun b hb => ?_
      unfold stp
      simp [hi, hb]
    · rw [if_neg e2, if_neg (by omega)]
theorem rA_all (G : List (List Int)) : brows (rA G G.length) G.length = brows (fun k => marks (via (stp G) 0 k) G.length) G.length := by
  refine brows_congr fun k hk => ?_
  unfold rA
  rw [if_pos hk]
  rfl
/-- the second: k rounds done, i rows of the next, j of the next row -/
def rC (G : List (List Int)) (k i j a : Nat) : List Bool := marks (fun b => if a < i ∨ a = i ∧ b < j then via (stp G) (k + 1) a b else via (stp G) k a b) G.length
theorem rC_cell (G : List (List Int)) (k i j a b : Nat) (hb : b = k ∨ a = k) : (if a < i ∨ a = i ∧ b < j then via (stp G) (k + 1) a b else via (stp G) k a b) = via (stp G) k a b := by
  split
  · rcases hb with rfl | rfl
    · exact via_col _ _ _
    · exact via_row _ _ _
  · rfl
theorem rC_zero (G : List (List Int)) (k : Nat) : brows (rC G k 0 0) G.length = brows (fun a => marks (via (stp G) k a) G.length) G.length := by
  refine brows_congr fun a _ => marks_congr fun b _ => ?_
  rw [if_neg (by omega)]
theorem rC_end (G : List (List Int)) (k : Nat) : brows (rC G k G.length 0) G.length = brows (fun a => marks (via (stp G) (k + 1) a) G.length) G.length := by
  refine brows_congr fun a ha => marks_congr fun b _ => ?_
  rw [if_pos (.inl ha)]
theorem rC_next (G : List (List Int)) (k i : Nat) : brows (rC G k i G.length) G.length = brows (rC G k (i + 1) 0) G.length := by
  refine brows_congr fun a ha => marks_congr fun b hb => ?_
  by_cases e : a < i ∨ a = i
  · rw [if_pos (by omega), if_pos (by omega)]
  · rw [if_neg (by omega), if_neg (by omega)]
/-- a row that does not reach k stays as it is -/
theorem rC_stay {G : List (List Int)} {k i : Nat} (j : Nat) (h : via (stp G) k i k = false) : brows (rC G k i j) G.length = brows (rC G k (i + 1) 0) G.length := by
  refine brows_congr fun a ha => marks_congr fun b hb => ?_
  by_cases e : a = i
  · subst e
    have : via (stp G) (k + 1) a b = via (stp G) k a b := by simp [via, h]
    rw [this]
    simp
  · by_cases e2 : a < i
    · rw [if_pos (by omega), if_pos (by omega)]
    · rw [if_neg (by omega), if_neg (by omega)]
theorem rC_mark {G : List (List Int)} {k i j : Nat} (h : via (stp G) k i k = true) : (brows (rC G k i j) G.length).set i ((rC G k i j i).set j (via (stp G) k i j || via (stp G) k k j)) = brows (rC G k i (j + 1)) G.length := by
  rw [brows_set]
  refine brows_congr fun a _ => ?_
  by_cases e : a = i
  · subst e
    rw [if_pos rfl]
    unfold rC
    rw [marks_set]
    refine marks_congr fun b _ => ?_
    by_cases e2 : b = j
    · subst e2
      rw [if_pos rfl, if_pos (by omega)]
      simp [via, h]
    · rw [if_neg e2]
      by_cases e3 : b < j
      · rw [if_pos (by omega), if_pos (by omega)]
      · rw [if_neg (by omega), if_neg (by omega)]
  · rw [if_neg e]
    refine marks_congr fun b _ => ?_
    by_cases e2 : a < i
    · rw [if_pos (by omega), if_pos (by omega)]
    · rw [if_neg (by omega), if_neg (by omega)]
end Go.Proofs.Ytcjofakhefpfdaa
