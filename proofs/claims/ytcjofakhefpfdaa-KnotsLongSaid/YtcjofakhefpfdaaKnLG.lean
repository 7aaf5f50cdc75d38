/- KnotsLong: a row of places, and a ring. -/
import Derived.Test.YtcjofakhefpfdaaKnLR
namespace Go.Proofs.Ytcjofakhefpfdaa
open Go.RowKit Go.My Go.My.Kn Go.Maps
set_option linter.unusedSimpArgs false
set_option linter.unusedVariables false

/-- a row of places; closed to a ring -/
def lineR (n : Nat) (r : Bool) (i : Nat) : List Int := if i + 1 < n then [((i + 1 : Nat) : Int), -1, (n : Int)] else if r then [0] else []
def lineG (n : Nat) (r : Bool) : List (List Int) := rows (lineR n r) n
theorem lineG_len (n : Nat) (r : Bool) : (lineG n r).length = n := rows_length _ _
theorem lineG_gat {n : Nat} {r : Bool} {i : Nat} (h : i < n) : gat (lineG n r) i = lineR n r i := gat_rows' _ h
theorem stp_line {n : Nat} (r : Bool) (hn : 2 ≤ n) (i j : Nat) : stp (lineG n r) i j = true ↔ (i + 1 = j ∧ j < n) ∨ (r = true ∧ i + 1 = n ∧ j = 0) := by
  rw [stp_iff, lineG_len]
  constructor
  · rintro ⟨h1, h2, h3⟩
    rw [lineG_gat h1] at h3
    unfold lineR at h3
    by_cases e : i + 1 < n
    · rw [if_pos e] at h3
      simp at h3
      omega
    · rw [if_neg e] at h3
      cases r with
      | false => simp at h3
      | true => simp at h3; right; exact ⟨rfl, by omega, by omega⟩
  · rintro (⟨rfl, h⟩ | ⟨rfl, h, rfl⟩)
    · refine ⟨by omega, h, ?_⟩
      rw [lineG_gat (by omega)]
      unfold lineR
      rw [if_pos h]
      simp
    · refine ⟨by omega, by omega, ?_⟩
      rw [lineG_gat (by omega)]
      unfold lineR
      rw [if_neg (by omega)]
      simp
/-- forward along the row -/
theorem tr_line {n : Nat} (r : Bool) (hn : 2 ≤ n) {i j : Nat} (h : i < j) (hj : j < n) : Tr (stp (lineG n r)) i j := by
  obtain ⟨d, rfl⟩ : ∃ d, j = i + 1 + d := ⟨j - (i + 1), by omega⟩
  induction d with
  | zero => exact .one ((stp_line r hn i (i + 1)).2 (.inl ⟨rfl, hj⟩))
  | succ d ih => exact .more (ih (by omega) (by omega)) ((stp_line r hn _ _).2 (.inl ⟨by omega, hj⟩))
theorem tr_row {n : Nat} (hn : 2 ≤ n) (i j : Nat) : Tr (stp (lineG n false)) i j ↔ i < j ∧ j < n := by
  constructor
  · intro h
    induction h with
    | one h =>
      rcases (stp_line false hn _ _).1 h with ⟨h1, h2⟩ | ⟨h, _⟩
      · omega
      · cases h
    | more _ h ih =>
      rcases (stp_line false hn _ _).1 h with ⟨h1, h2⟩ | ⟨h, _⟩
      · omega
      · cases h
  · rintro ⟨h1, h2⟩
    exact tr_line false hn h1 h2
theorem tr_ring {n : Nat} (hn : 2 ≤ n) {i j : Nat} (hi : i < n) (hj : j < n) : Tr (stp (lineG n true)) i j := by
  have hz : Tr (stp (lineG n true)) (n - 1) 0 := .one ((stp_line true hn _ _).2 (.inr ⟨rfl, by omega, rfl⟩))
  have h0 : Tr (stp (lineG n true)) i 0 := by
    by_cases e : i = n - 1
    · rw [e]; exact hz
    · exact (tr_line true hn (by omega) (by omega)).trans hz
  by_cases e : j = 0
  · rw [e]; exact h0
  · exact h0.trans (tr_line true hn (by omega) hj)
section
variable {n : Nat}
theorem via_line (hn : 2 ≤ n) (i j : Nat) : via' (lineG n false) i j = true ↔ i < j ∧ j < n := by rw [vtr, tr_row hn]
theorem via_line_no (hn : 2 ≤ n) {i j : Nat} (h : ¬ (i < j ∧ j < n)) : via' (lineG n false) i j = false := by
  rw [← Bool.not_eq_true, via_line hn]; exact h
theorem via_ring (hn : 2 ≤ n) {i j : Nat} (hi : i < n) (hj : j < n) : via' (lineG n true) i j = true := by rw [vtr]; exact tr_ring hn hi hj
theorem cls_row (hn : 2 ≤ n) {i : Nat} (hi : i < n) : cls n (via' (lineG n false)) i = [i] := by
  refine up_eq (cls_up _) (List.pairwise_singleton _ _) fun k => ?_
  rw [mem_cls, mu_iff, List.mem_singleton]
  constructor
  · rintro ⟨_, h | ⟨h1, h2⟩⟩
    · exact h
    · rw [via_line hn] at h1 h2; omega
  · rintro rfl; exact ⟨hi, .inl rfl⟩
theorem nm_row (hn : 2 ≤ n) {i : Nat} (hi : i < n) : nm n (via' (lineG n false)) i = i := by
  unfold nm; rw [cls_row hn hi]; rfl
theorem seq_row (hn : 2 ≤ n) : ∀ m, m ≤ n → KnSeq n (via' (lineG n false)) (List.range' m (n - m)) ((List.range m).reverse.map fun i => [i])
  | 0, _ => KnSeq.nil fun i hf => by
    have h1 := hf.1
    have h2 := hf.2.1
    rw [nm_row hn h1, List.mem_range'_1] at h2
    exact h2 ⟨Nat.zero_le _, by omega⟩
  | m + 1, hm => by
    have hmn : m < n := hm
    have e : (List.range (m + 1)).reverse.map (fun i => [i]) = cls n (via' (lineG n false)) m :: (List.range m).reverse.map fun i => [i] := by
      rw [List.range_succ, List.reverse_append, cls_row hn hmn]; rfl
    rw [e]
    refine KnSeq.cons m ⟨hmn, ?_, fun k h1 h2 => ?_⟩ (fun j hj hf => ?_) ?_
    · rw [nm_row hn hmn, List.mem_range'_1]; omega
    · rw [via_line hn] at h1
      rw [nm_row hn h1.2, List.mem_range'_1]; omega
    · have h1 := hf.2.2 m ((via_line hn j m).2 ⟨hj, hmn⟩) (via_line_no hn (by omega))
      rw [nm_row hn hmn, List.mem_range'_1] at h1
      omega
    · have h1 := seq_row hn m (by omega)
      have e2 : List.range' m (n - m) = m :: List.range' (m + 1) (n - (m + 1)) := by
        rw [show n - m = (n - (m + 1)) + 1 by omega, List.range'_succ]
      rw [e2] at h1
      exact h1
theorem kn_row (hn : 2 ≤ n) : KnSeq n (via' (lineG n false)) [] ((List.range n).reverse.map fun i => [i]) := by
  have h := seq_row hn n (Nat.le_refl _)
  rw [Nat.sub_self] at h
  exact h
theorem cls_ring (hn : 2 ≤ n) {i : Nat} (hi : i < n) : cls n (via' (lineG n true)) i = List.range n := by
  refine up_eq (cls_up _) List.pairwise_lt_range fun k => ?_
  rw [mem_cls, mu_iff, List.mem_range]
  exact ⟨fun h => h.1, fun h => ⟨h, .inr ⟨via_ring hn hi h, via_ring hn h hi⟩⟩⟩
theorem nm_ring (hn : 2 ≤ n) {i : Nat} (hi : i < n) : nm n (via' (lineG n true)) i = 0 := by
  unfold nm
  rw [cls_ring hn hi]
  obtain ⟨m, rfl⟩ : ∃ m, n = m + 1 := ⟨n - 1, by omega⟩
  rw [List.range_succ_eq_map]; rfl
theorem kn_ring (hn : 2 ≤ n) : KnSeq n (via' (lineG n true)) [] [List.range n] := by
  rw [← cls_ring hn (i := 0) (by omega)]
  refine KnSeq.cons 0 ⟨by omega, by simp, fun k h1 h2 => ?_⟩ (fun j hj => absurd hj (Nat.not_lt_zero _)) (KnSeq.nil fun i hf => ?_)
  · have hk := ((reachR (lineG n true)).lt 0 k h1).2
    rw [lineG_len] at hk
    rw [via_ring hn hk (by omega)] at h2
    cases h2
  · have h2 := hf.2.1
    rw [nm_ring hn hf.1] at h2
    simp at h2
end
end Go.Proofs.Ytcjofakhefpfdaa
