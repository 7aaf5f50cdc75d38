/- A heap in a row, of no program: one that goes up, one that goes down; two that change places. -/
set_option linter.unusedVariables false
set_option linter.unusedSimpArgs false
namespace Go.My.Hp

/-- each above its two, the least first -/
def Hp (f : Nat → Int) (n : Nat) : Prop := ∀ k, 0 < k → k < n → f ((k - 1) / 2) ≤ f k
def Up (f : Nat → Int) (n j : Nat) : Prop := (∀ k, 0 < k → k < n → k ≠ j → f ((k - 1) / 2) ≤ f k) ∧ (∀ k, 0 < k → k < n → (k - 1) / 2 = j → 0 < j → f ((j - 1) / 2) ≤ f k)
def Dn (f : Nat → Int) (n i : Nat) : Prop := (∀ k, 0 < k → k < n → (k - 1) / 2 ≠ i → f ((k - 1) / 2) ≤ f k) ∧ (∀ k, 0 < k → k < n → (k - 1) / 2 = i → 0 < i → f ((i - 1) / 2) ≤ f k)
def sw (f : Nat → Int) (i j : Nat) : Nat → Int := fun k => if k = i then f j else if k = j then f i else f k
theorem sw_i (f : Nat → Int) (i j : Nat) : sw f i j i = f j := if_pos rfl
theorem sw_j (f : Nat → Int) (i j : Nat) : sw f i j j = f i := by
  unfold sw; by_cases h : j = i
  · rw [if_pos h, h]
  · rw [if_neg h, if_pos rfl]
theorem sw_ne (f : Nat → Int) {i j k : Nat} (h1 : k ≠ i) (h2 : k ≠ j) : sw f i j k = f k := by unfold sw; rw [if_neg h1, if_neg h2]

theorem Hp.min {f : Nat → Int} {n : Nat} (h : Hp f n) (k : Nat) (hk : k < n) : f 0 ≤ f k := by
  induction k using Nat.strongRecOn with
  | _ k ih =>
    by_cases h0 : k = 0
    · subst h0; exact Int.le_refl _
    · exact Int.le_trans (ih ((k - 1) / 2) (by omega) (by omega)) (h k (by omega) hk)
/-- one more at the end -/
theorem Hp.up {f : Nat → Int} {n : Nat} (h : Hp f n) : Up f (n + 1) n := ⟨fun k h0 h1 h2 => h k h0 (by omega), fun k h0 h1 h2 h3 => by omega⟩
theorem Up.done {f : Nat → Int} {n j : Nat} (h : Up f n j) (hd : 0 < j → f ((j - 1) / 2) ≤ f j) : Hp f n := fun k h0 h1 => by
  by_cases e : k = j
  · subst e; exact hd h0
  · exact h.1 k h0 h1 e
theorem Up.step {f : Nat → Int} {n j : Nat} (h : Up f n j) (hj : 0 < j) (hjn : j < n) (hl : f j < f ((j - 1) / 2)) : Up (sw f ((j - 1) / 2) j) n ((j - 1) / 2) := by
  generalize hi : (j - 1) / 2 = i at *
  have hij : i < j := by omega
  refine ⟨fun k h0 h1 h2 => ?_, fun k h0 h1 h2 h3 => ?_⟩
  · by_cases e : k = j
    · subst e
      rw [hi, sw_i, sw_j]; omega
    · rw [sw_ne f h2 e]
      by_cases e2 : (k - 1) / 2 = j
      · rw [e2, sw_j, ← hi]
        exact h.2 k h0 h1 e2 hj
      · by_cases e3 : (k - 1) / 2 = i
        · rw [e3, sw_i]
          have := h.1 k h0 h1 e
          rw [e3] at this
          omega
        · rw [sw_ne f e3 e2]
          exact h.1 k h0 h1 e
  · have hp : (i - 1) / 2 ≠ i ∧ (i - 1) / 2 ≠ j := by omega
    rw [sw_ne f hp.1 hp.2]
    have hi0 := h.1 i h3 (by omega) (by omega)
    by_cases e : k = j
    · subst e; rw [sw_j]; exact hi0
    · rw [sw_ne f (by omega) e]
      have := h.1 k h0 h1 e
      rw [h2] at this
      omega
theorem Dn.step {f : Nat → Int} {n i j : Nat} (h : Dn f n i) (hj : j < n) (hp : (j - 1) / 2 = i) (hj0 : 0 < j) (hs : ∀ k, 0 < k → k < n → (k - 1) / 2 = i → f j ≤ f k) (hl : f j < f i) : Dn (sw f i j) n j := by
  have hij : i < j := by omega
  refine ⟨fun k h0 h1 h2 => ?_, fun k h0 h1 h2 h3 => ?_⟩
  · by_cases e : (k - 1) / 2 = i
    · rw [e, sw_i]
      by_cases e2 : k = j
      · subst e2; rw [sw_j]; omega
      · rw [sw_ne f (by omega) e2]
        exact hs k h0 h1 e
    · rw [sw_ne f e h2]
      by_cases e2 : k = i
      · subst e2
        rw [sw_i]
        exact h.2 j hj0 hj hp h0
      · by_cases e3 : k = j
        · subst e3; exact absurd hp e
        · rw [sw_ne f e2 e3]
          exact h.1 k h0 h1 e
  · rw [hp, sw_i, sw_ne f (by omega) (by omega)]
    have := h.1 k h0 h1 (by omega)
    rw [h2] at this
    exact this
theorem Dn.done {f : Nat → Int} {n i : Nat} (h : Dn f n i) (hd : ∀ k, 0 < k → k < n → (k - 1) / 2 = i → f i ≤ f k) : Hp f n := fun k h0 h1 => by
  by_cases e : (k - 1) / 2 = i
  · rw [e]; exact hd k h0 h1 e
  · exact h.1 k h0 h1 e
/-- the last one comes first -/
theorem Hp.down {f : Nat → Int} {n : Nat} (h : Hp f (n + 1)) : Dn (sw f 0 n) n 0 := by
  refine ⟨fun k h0 h1 h2 => ?_, fun k h0 h1 h2 h3 => by omega⟩
  rw [sw_ne f h2 (by omega), sw_ne f (by omega) (by omega)]
  exact h k h0 (by omega)

/-! ### rows -/
def at_ (l : List Int) (k : Nat) : Int := l.getD k 0
def swl (l : List Int) (i j : Nat) : List Int := (l.set i (at_ l j)).set j (at_ l i)
theorem swl_length (l : List Int) (i j : Nat) : (swl l i j).length = l.length := by unfold swl; simp
theorem at_lt {l : List Int} {k : Nat} (h : k < l.length) : at_ l k = l[k] := by unfold at_; simp [h]
theorem at_swl {l : List Int} {i j : Nat} (hi : i < l.length) (hj : j < l.length) (k : Nat) : at_ (swl l i j) k = sw (at_ l) i j k := by
  by_cases hk : k < l.length
  · unfold sw swl
    rw [at_lt (by simpa using hk), List.getElem_set]
    by_cases e2 : j = k
    · subst e2
      rw [if_pos rfl]
      by_cases e : j = i
      · rw [if_pos e, e]
      · rw [if_neg e, if_pos rfl]
    · rw [if_neg e2, List.getElem_set]
      by_cases e : i = k
      · subst e; rw [if_pos rfl, if_pos rfl]
      · rw [if_neg e, if_neg (fun x => e x.symm), if_neg (fun x => e2 x.symm), at_lt hk]
  · have h1 : at_ (swl l i j) k = 0 := by unfold at_ swl; simp [hk]
    rw [h1, sw_ne _ (by omega) (by omega)]
    unfold at_; simp [hk]
theorem swl_perm {l : List Int} {i j : Nat} (hi : i < l.length) (hj : j < l.length) : (swl l i j).Perm l := by
  rw [List.perm_iff_count]
  intro a
  unfold swl
  rw [List.count_set (by simpa using hj), List.count_set hi, List.getElem_set, at_lt hi, at_lt hj]
  by_cases e : i = j
  · subst e
    rw [if_pos rfl]
    have := List.count_pos_iff (a := l[i]) (l := l)
    have hm : 0 < l.count l[i] := this.2 (List.getElem_mem hi)
    by_cases h : l[i] = a
    · subst h; simp <;> omega
    · have h' : (l[i] == a) = false := by simpa using h
      rw [h']; simp
  · rw [if_neg e]
    have c1 : 0 < l.count l[i] := List.count_pos_iff.2 (List.getElem_mem hi)
    have c2 : 0 < l.count l[j] := List.count_pos_iff.2 (List.getElem_mem hj)
    by_cases h1 : l[i] = a <;> by_cases h2 : l[j] = a
    · rw [h1, h2]; simp <;> (rw [h1] at c1; omega)
    · have h2' : (l[j] == a) = false := by simpa using h2
      rw [h1, h2']; simp <;> (rw [h1] at c1; omega)
    · have h1' : (l[i] == a) = false := by simpa using h1
      rw [h2, h1']; simp
    · have h1' : (l[i] == a) = false := by simpa using h1
      have h2' : (l[j] == a) = false := by simpa using h2
      rw [h1', h2']; simp
end Go.My.Hp
