/- Rows of marks in memory. -/
import Derived.Test.YtcjofakhefpfdaaKnM3
namespace Go.Proofs.Ytcjofakhefpfdaa
open Go.RowKit Go.My Go.Maps
set_option linter.unusedSimpArgs false
set_option linter.unusedVariables false
attribute [local go_sem ↓] Go.wp_at_zero Go.wp_at_succ

theorem elGB : El Try.prog 31 30 1 24 := ⟨Try.underlying31, by
  have h : (Try.prog.info? 30).map (fun i => (i.zero, i.size, i.bytes)) = some (some (.slice none 0 0), 1, 24) := by kernel_rfl
  obtain ⟨i, hi, hz, hs, hb⟩ := info_parts h
  exact ⟨i, _, hi, hz, hs, hb, rfl⟩, by omega⟩
theorem zeroGB : ∀ i, Try.prog.info? 30 = some i → i.zero = some (.slice none 0 0) := fun i hi => by
  have h : (Try.prog.info? 30).map (fun i => i.zero) = some (some (.slice none 0 0)) := by kernel_rfl
  rw [hi] at h
  simpa using h
def bvs (l : List Bool) : List Value := l.map Value.bool
theorem bvs_len (l : List Bool) : (bvs l).length = l.length := by simp [bvs]
theorem bvs_at (l : List Bool) (k : Nat) (h : k < l.length) : (bvs l)[k]? = some (.bool l[k]) := by simp [bvs, h]
theorem bvs_set (l : List Bool) (k : Nat) (b : Bool) : (bvs l).set k (.bool b) = bvs (l.set k b) := by simp [bvs, List.map_set]
/-! ### rows of the call's own -/
/-- the outer row at gs holds the values vs, each a row of its own -/
structure BRows (B : Nat) (w : World) (gs : Nat) (vs : List Value) (R : List (List Bool)) : Prop where
  len : vs.length = R.length
  own : ∀ (i : Nat) (v : Value) (L : List Bool), vs[i]? = some v → R[i]? = some L → Own w 4 1 v L.length (bvs L)
  new : ∀ (i : Nat) (v : Value) (k : Nat), vs[i]? = some v → v.ownBlock = some k → B ≤ k
  apart : ∀ (i j : Nat) (v u : Value) (k : Nat), i ≠ j → vs[i]? = some v → vs[j]? = some u → v.ownBlock = some k → u.ownBlock ≠ some k
  out : Own w 30 1 (.slice (some ⟨gs, 0, none⟩) vs.length vs.length) vs.length vs
  base : B ≤ gs
section
variable {B : Nat} {w w' : World} {gs : Nat} {vs : List Value} {R : List (List Bool)}
theorem BRows.no (h : BRows B w gs vs R) (hf : Fr No w w') : BRows B w' gs vs R where
  len := h.len
  own i v L h1 h2 := (h.own i v L h1 h2).fr hf (fun _ _ h => h)
  new := h.new
  apart := h.apart
  out := h.out.fr hf (fun _ _ h => h)
  base := h.base
/-- over whatever changes no block of theirs -/
theorem BRows.fr {S : Nat → Prop} (h : BRows B w gs vs R) (hf : Fr S w w') (hg : ¬ S gs) (hn : ∀ v ∈ vs, ∀ k, v.ownBlock = some k → ¬ S k) : BRows B w' gs vs R where
  len := h.len
  own i v L h1 h2 := (h.own i v L h1 h2).fr hf (fun k hk => hn v (List.mem_of_getElem? h1) k hk)
  new := h.new
  apart := h.apart
  out := h.out.fr hf (fun k hk => by injection hk with hk; subst hk; exact hg)
  base := h.base
theorem BRows.ne (h : BRows B w gs vs R) {i : Nat} {v : Value} {L : List Bool} (h1 : vs[i]? = some v) (h2 : R[i]? = some L) : v.ownBlock ≠ some gs := by
  obtain ⟨cur, hc⟩ := h.out.blk gs rfl
  exact (h.own i v L h1 h2).ne_ hc (by decide)
theorem BRows.cell (h : BRows B w gs vs R) {i : Nat} (hi : i < R.length) : ∃ A c, vs[i]? = some (.slice A R[i].length c) ∧ w.cell? ⟨gs, i, none⟩ = some (.slice A R[i].length c) ∧ Own w 4 1 (.slice A R[i].length c) R[i].length (bvs R[i]) ∧ R[i].length ≤ c ∧ c ≤ maxLen := by
  have hv : i < vs.length := by rw [h.len]; exact hi
  have h1 : vs[i]? = some vs[i] := List.getElem?_eq_getElem hv
  have ho := h.own i _ _ h1 (List.getElem?_eq_getElem hi)
  obtain ⟨A, c, e, hc, hm⟩ := ho.form
  obtain ⟨ad, hA, _, hcell⟩ := h.out.rd.2 (by omega)
  injection hA with hA
  have hx := hcell i _ h1
  rw [← hA, add_zero, e] at hx
  rw [e] at ho h1
  exact ⟨A, c, h1, hx, ho, hc, hm⟩
/-- one row is written anew -/
theorem BRows.put {w1 w2 : World} (h : BRows B w gs vs R) {i : Nat} {v v' : Value} {L L' : List Bool} (h1 : vs[i]? = some v) (h2 : R[i]? = some L)
    (hf : Fr (AtO v.ownBlock) w w1) (ho : Own w1 4 1 v' L'.length (bvs L')) (hn : v'.ownBlock = v.ownBlock ∨ ∃ k, v'.ownBlock = some k ∧ w.heap.size ≤ k) (hB : B ≤ w.heap.size)
    (hw2 : w2 = w1.setCell ⟨gs, i, none⟩ v') : BRows B w2 gs (vs.set i v') (R.set i L') := by
  have hne := h.ne h1 h2
  have hil : i < vs.length := (List.getElem?_eq_some_iff.1 h1).1
  have hgl : gs < w.heap.size := h.out.lt gs rfl
  have hne' : v'.ownBlock ≠ some gs := by
    rcases hn with e | ⟨k, e, hk⟩
    · rw [e]; exact hne
    · rw [e]; intro e2; injection e2 with e2; omega
  have hout1 : Own w1 30 1 (.slice (some ⟨gs, 0, none⟩) vs.length vs.length) vs.length vs := h.out.fr hf fun k hk hS => by
    injection hk with hk
    subst hk
    exact hne hS
  have hs := hout1.store i hil v'
  subst hw2
  have hfs : Fr (At1 gs) w1 (w1.setCell ⟨gs, i, none⟩ v') := fr_set _ _ _ _
  have other : ∀ (j : Nat) (u : Value), j ≠ i → vs[j]? = some u → ∀ k, u.ownBlock = some k → ¬ AtO v.ownBlock k := fun j u hj hu k hk hS => h.apart j i u v k hj hu h1 hk hS
  have hlt : ∀ (j : Nat) (u : Value), vs[j]? = some u → ∀ k, u.ownBlock = some k → k < w.heap.size ∧ k ≠ gs := fun j u hu k hk => by
    have hj : j < R.length := by rw [← h.len]; exact (List.getElem?_eq_some_iff.1 hu).1
    have ho := h.own j u _ hu (List.getElem?_eq_getElem hj)
    exact ⟨ho.lt k hk, fun e => h.ne hu (List.getElem?_eq_getElem hj) (by rw [hk, e])⟩
  refine ⟨by rw [List.length_set, List.length_set]; exact h.len, fun j u M hu hM => ?_, fun j u k hu hk => ?_, fun a b x y k hab hx hy hk => ?_, by rw [List.length_set]; exact hs.1, h.base⟩
  · by_cases e : j = i
    · subst e
      rw [List.getElem?_set_self hil] at hu
      rw [List.getElem?_set_self (by rw [← h.len]; exact hil)] at hM
      injection hu with hu
      injection hM with hM
      subst hu hM
      exact ho.fr hfs (fun k hk e2 => hne' (by rw [hk, show k = gs from e2]))
    · rw [List.getElem?_set_ne (fun e2 => e e2.symm)] at hu hM
      exact ((h.own j u M hu hM).fr hf (fun k hk => other j u e hu k hk)).fr hfs (fun k hk e2 => (hlt j u hu k hk).2 e2)
  · by_cases e : j = i
    · subst e
      rw [List.getElem?_set_self hil] at hu
      injection hu with hu
      subst hu
      rcases hn with e2 | ⟨k', e2, hk'⟩
      · rw [e2] at hk
        exact h.new j v k h1 hk
      · rw [e2] at hk
        injection hk with hk
        omega
    · rw [List.getElem?_set_ne (fun e2 => e e2.symm)] at hu
      exact h.new j u k hu hk
  · have new_other : ∀ (j : Nat) (u : Value), j ≠ i → vs[j]? = some u → ∀ k, u.ownBlock = some k → v'.ownBlock ≠ some k := fun j u hj hu k hk e2 => by
      rcases hn with e3 | ⟨k', e3, hk'⟩
      · rw [e3] at e2
        exact other j u hj hu k hk e2
      · rw [e3] at e2
        injection e2 with e2
        have := (hlt j u hu k hk).1
        omega
    by_cases ea : a = i
    · subst ea
      rw [List.getElem?_set_self hil] at hx
      rw [List.getElem?_set_ne (fun e2 => hab e2)] at hy
      injection hx with hx
      subst hx
      exact fun e2 => new_other b y (fun e => hab e.symm) hy k e2 hk
    · rw [List.getElem?_set_ne (fun e2 => ea e2.symm)] at hx
      by_cases eb : b = i
      · subst eb
        rw [List.getElem?_set_self hil] at hy
        injection hy with hy
        subst hy
        exact new_other a x ea hx k hk
      · rw [List.getElem?_set_ne (fun e2 => eb e2.symm)] at hy
        exact h.apart a b x y k hab hx hy hk
theorem BRows.zero (w : World) (m : Nat) (hm : m ≤ 1000000) : BRows w.heap.size (w.alloc (.cells (zrow m (.slice none 0 0)).toArray 30)) w.heap.size (zrow m (.slice none 0 0)) (List.replicate m []) where
  len := by rw [zrow_length, List.length_replicate]
  own i v L h1 h2 := by
    unfold zrow at h1
    rw [List.getElem?_replicate] at h1 h2
    split at h1
    · simp only [Option.some.injEq] at h1
      rw [if_pos (by assumption)] at h2
      simp only [Option.some.injEq] at h2
      subst h1 h2
      exact Own.nil _ _ _
    · cases h1
  new i v k h1 hk := by
    unfold zrow at h1
    rw [List.getElem?_replicate] at h1
    split at h1
    · simp only [Option.some.injEq] at h1
      subst h1
      cases hk
    · cases h1
  apart i j v u k _ h1 _ hk := by
    unfold zrow at h1
    rw [List.getElem?_replicate] at h1
    split at h1
    · simp only [Option.some.injEq] at h1
      subst h1
      cases hk
    · cases h1
  out := by
    rw [zrow_length]
    exact ⟨by rw [zrow_length]; omega, .inr ⟨w.heap.size, m, _, rfl, heap_alloc_new w _, Nat.le_refl _, by simp only [maxLen]; omega, by simp [zrow_length], by rw [Nat.mul_one]; exact List.take_of_length_le (by simp [zrow_length])⟩⟩
  base := Nat.le_refl _
end

section
variable {B : Nat} {w : World} {gs : Nat} {vs : List Value} {R : List (List Bool)}
/-- a row and a cell of it -/
theorem BRows.row (h : BRows B w gs vs R) {i j : Nat} (hi : i < R.length) (hj : j < R[i].length) : ∃ g c, vs[i]? = some (.slice (some ⟨g, 0, none⟩) R[i].length c) ∧ w.cell? ⟨gs, i, none⟩ = some (.slice (some ⟨g, 0, none⟩) R[i].length c) ∧ w.cell? ⟨g, j, none⟩ = some (.bool R[i][j]) ∧ w.frozen? ⟨g, j, none⟩ = false ∧ R[i].length ≤ c ∧ c ≤ maxLen := by
  obtain ⟨A, c, h1, h2, h3, h4, h5⟩ := h.cell hi
  obtain ⟨g, c', cur, hv, hb, -⟩ := h3.formPos (by omega)
  injection hv with hA _ hc
  subst hA hc
  obtain ⟨ad, u, e, _, hu, hx⟩ := h3.rd.at_ hj
  rw [bvs_at _ _ hj] at hu
  injection hu with hu
  subst hu
  injection e with e
  subst e
  rw [add_zero] at hx
  exact ⟨g, c, h1, h2, hx, hb.frozen j, h4, h5⟩
/-- one mark is written -/
theorem BRows.mark (h : BRows B w gs vs R) {i j g c : Nat} (hi : i < R.length) (hj : j < R[i].length) (h1 : vs[i]? = some (.slice (some ⟨g, 0, none⟩) R[i].length c)) (b : Bool) : BRows B (w.setCell ⟨g, j, none⟩ (.bool b)) gs vs (R.set i (R[i].set j b)) := by
  have h2 : R[i]? = some R[i] := List.getElem?_eq_getElem hi
  have ho := h.own i _ _ h1 h2
  have hne := h.ne h1 h2
  have hs := (ho.store j hj (.bool b)).1
  rw [bvs_set] at hs
  refine ⟨by rw [List.length_set]; exact h.len, fun k u M hu hM => ?_, h.new, h.apart, h.out.setCell (p := ⟨g, j, none⟩) (fun e => hne (by injection e with e; have e2 : gs = g := e; rw [e2]; rfl)) _, h.base⟩
  by_cases e : k = i
  · subst e
    rw [List.getElem?_set_self hi] at hM
    injection hM with hM
    rw [h1] at hu
    injection hu with hu
    subst hM hu
    rw [List.length_set]
    exact hs
  · rw [List.getElem?_set_ne (fun e2 => e e2.symm)] at hM
    exact (h.own k u M hu hM).setCell (p := ⟨g, j, none⟩) (fun e2 => h.apart k i u _ g e hu h1 e2 rfl) _
end
end Go.Proofs.Ytcjofakhefpfdaa
