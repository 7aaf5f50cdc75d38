/- Rows of numbers in memory; slices.Sort of numbers. -/
import Derived.Test.YtcjofakhefpfdaaKit0
import Derived.Test.YtcjofakhefpfdaaLib2
import Derived.Test.YtcjofakhefpfdaaCoinsMath
import Derived.Test.YtcjofakhefpfdaaSortI
import Derived.Deep.RegionHeld3
import Derived.Deep.DrawnRows
import Derived.Deep.QuietTactic
import Derived.BigQuiet
import Derived.Deep.RegionLaw
namespace Go.Proofs.Ytcjofakhefpfdaa
open Go.RowKit Go.My Go.Maps Go.Shelf Go.Sort Go.Lib
set_option linter.unusedSimpArgs false
set_option linter.unusedVariables false
attribute [local go_sem ↓] Go.wp_at_zero Go.wp_at_succ

theorem elI : El Try.prog 26 3 1 8 := ⟨Try.underlying26, by
  have h : (Try.prog.info? 3).map (fun i => (i.zero, i.size, i.bytes)) = some (some (.int .i64 0), 1, 8) := by kernel_rfl
  obtain ⟨i, hi, hz, hs, hb⟩ := info_parts h
  exact ⟨i, _, hi, hz, hs, hb, rfl⟩, by omega⟩
theorem elG : El Try.prog 22 26 1 24 := ⟨Try.underlying22, by
  have h : (Try.prog.info? 26).map (fun i => (i.zero, i.size, i.bytes)) = some (some (.slice none 0 0), 1, 24) := by kernel_rfl
  obtain ⟨i, hi, hz, hs, hb⟩ := info_parts h
  exact ⟨i, _, hi, hz, hs, hb, rfl⟩, by omega⟩
theorem zeroG : ∀ i, Try.prog.info? 26 = some i → i.zero = some (.slice none 0 0) := fun i hi => by
  have h : (Try.prog.info? 26).map (fun i => i.zero) = some (some (.slice none 0 0)) := by kernel_rfl
  rw [hi] at h
  simpa using h
theorem zeroI : ∀ i, Try.prog.info? 3 = some i → i.zero = some (.int .i64 0) := fun i hi => by
  have h : (Try.prog.info? 3).map (fun i => i.zero) = some (some (.int .i64 0)) := by kernel_rfl
  rw [hi] at h
  simpa using h
theorem is_ones (l : List Int) : ∀ y ∈ is_ l, y.oneCell' = true := fun y hy => by
  unfold is_ at hy
  obtain ⟨x, _, rfl⟩ := List.mem_map.1 hy
  rfl
theorem is_len (l : List Int) : (is_ l).length = l.length := by simp [is_]

/-! ### rows that may be read -/
/-- a slice of rows of numbers, in blocks that F names -/
def RdG (w : World) (F : Nat → Prop) (A : Option Addr) (G : List (List Int)) : Prop :=
  ∃ vs : List Value, Rd w F 1 A G.length vs ∧ ∀ (i : Nat) (L : List Int), G[i]? = some L → ∃ (A' : Option Addr) (c : Nat), vs[i]? = some (Value.slice A' L.length c) ∧ Rd w F 1 A' L.length (is_ L) ∧ L.length ≤ c ∧ c ≤ maxLen
theorem RdG.fr {w w' : World} {F S : Nat → Prop} {A : Option Addr} {G : List (List Int)} (h : RdG w F A G) (hf : Fr S w w') (hn : ∀ k, F k → k < w.heap.size → ¬ S k) : RdG w' F A G := by
  obtain ⟨vs, hr, hE⟩ := h
  refine ⟨vs, hr.fr (by omega) hf hn, fun i L hL => ?_⟩
  obtain ⟨A', c, h1, h2, h3⟩ := hE i L hL
  exact ⟨A', c, h1, h2.fr (by omega) hf hn, h3⟩
theorem RdG.no {w w' : World} {F : Nat → Prop} {A : Option Addr} {G : List (List Int)} (h : RdG w F A G) (hf : Fr No w w') : RdG w' F A G := h.fr hf (fun _ _ _ h => h)
theorem RdG.more {w : World} {F F' : Nat → Prop} {A : Option Addr} {G : List (List Int)} (h : RdG w F A G) (hF : ∀ k, F k → F' k) : RdG w F' A G := by
  obtain ⟨vs, hr, hE⟩ := h
  refine ⟨vs, hr.more hF, fun i L hL => ?_⟩
  obtain ⟨A', c, h1, h2, h3⟩ := hE i L hL
  exact ⟨A', c, h1, h2.more hF, h3⟩
theorem RdG.at_ {w : World} {F : Nat → Prop} {A : Option Addr} {G : List (List Int)} (h : RdG w F A G) (k : Nat) (hk : k < G.length) :
    ∃ ad A' c, A = some ad ∧ w.cell? (ad.add k) = some (.slice A' G[k].length c) ∧ Rd w F 1 A' G[k].length (is_ G[k]) ∧ G[k].length ≤ c ∧ c ≤ maxLen := by
  obtain ⟨vs, hr, hE⟩ := h
  obtain ⟨ad, e, _, hc⟩ := hr.2 (by omega)
  obtain ⟨A', c, h1, h2, h3, h4⟩ := hE k _ (List.getElem?_eq_getElem hk)
  exact ⟨ad, A', c, e, hc k _ h1, h2, h3, h4⟩

/-! ### rows of the call's own -/
/-- the outer row at gs holds the values vs, each a row of its own -/
structure IRows (B : Nat) (w : World) (gs : Nat) (vs : List Value) (R : List (List Int)) : Prop where
  len : vs.length = R.length
  own : ∀ (i : Nat) (v : Value) (L : List Int), vs[i]? = some v → R[i]? = some L → Own w 3 1 v L.length (is_ L)
  new : ∀ (i : Nat) (v : Value) (k : Nat), vs[i]? = some v → v.ownBlock = some k → B ≤ k
  apart : ∀ (i j : Nat) (v u : Value) (k : Nat), i ≠ j → vs[i]? = some v → vs[j]? = some u → v.ownBlock = some k → u.ownBlock ≠ some k
  out : Own w 26 1 (.slice (some ⟨gs, 0, none⟩) vs.length vs.length) vs.length vs
  base : B ≤ gs
section
variable {B : Nat} {w w' : World} {gs : Nat} {vs : List Value} {R : List (List Int)}
theorem IRows.no (h : IRows B w gs vs R) (hf : Fr No w w') : IRows B w' gs vs R where
  len := h.len
  own i v L h1 h2 := (h.own i v L h1 h2).fr hf (fun _ _ h => h)
  new := h.new
  apart := h.apart
  out := h.out.fr hf (fun _ _ h => h)
  base := h.base
/-- over whatever changes no block of theirs -/
theorem IRows.fr {S : Nat → Prop} (h : IRows B w gs vs R) (hf : Fr S w w') (hg : ¬ S gs) (hn : ∀ v ∈ vs, ∀ k, v.ownBlock = some k → ¬ S k) : IRows B w' gs vs R where
  len := h.len
  own i v L h1 h2 := (h.own i v L h1 h2).fr hf (fun k hk => hn v (List.mem_of_getElem? h1) k hk)
  new := h.new
  apart := h.apart
  out := h.out.fr hf (fun k hk => by injection hk with hk; subst hk; exact hg)
  base := h.base
theorem IRows.ne (h : IRows B w gs vs R) {i : Nat} {v : Value} {L : List Int} (h1 : vs[i]? = some v) (h2 : R[i]? = some L) : v.ownBlock ≠ some gs := by
  obtain ⟨cur, hc⟩ := h.out.blk gs rfl
  exact (h.own i v L h1 h2).ne_ hc (by decide)
theorem IRows.cell (h : IRows B w gs vs R) {i : Nat} (hi : i < R.length) : ∃ A c, vs[i]? = some (.slice A R[i].length c) ∧ w.cell? ⟨gs, i, none⟩ = some (.slice A R[i].length c) ∧ Own w 3 1 (.slice A R[i].length c) R[i].length (is_ R[i]) ∧ R[i].length ≤ c ∧ c ≤ maxLen := by
  have hv : i < vs.length := by rw [h.len]; exact hi
  have h1 : vs[i]? = some vs[i] := List.getElem?_eq_getElem hv
  have ho := h.own i _ _ h1 (List.getElem?_eq_getElem hi)
  obtain ⟨A, c, e, hc, hm⟩ := ho.form
  obtain ⟨ad, hA, _, hcell⟩ := h.out.rd.2 (by omega)
  injection hA with hA
  have hx := hcell i _ h1
  rw [← hA, add_zero, e] at hx
  rw [e] at ho h1
  exact ⟨A, c, h1, hx, ho, hc, hm⟩
/-- one row is written anew -/
theorem IRows.put {w1 w2 : World} (h : IRows B w gs vs R) {i : Nat} {v v' : Value} {L L' : List Int} (h1 : vs[i]? = some v) (h2 : R[i]? = some L)
    (hf : Fr (AtO v.ownBlock) w w1) (ho : Own w1 3 1 v' L'.length (is_ L')) (hn : v'.ownBlock = v.ownBlock ∨ ∃ k, v'.ownBlock = some k ∧ w.heap.size ≤ k) (hB : B ≤ w.heap.size)
    (hw2 : w2 = w1.setCell ⟨gs, i, none⟩ v') : IRows B w2 gs (vs.set i v') (R.set i L') := by
  have hne := h.ne h1 h2
  have hil : i < vs.length := (List.getElem?_eq_some_iff.1 h1).1
  have hgl : gs < w.heap.size := h.out.lt gs rfl
  have hne' : v'.ownBlock ≠ some gs := by
    rcases hn with e | ⟨k, e, hk⟩
    · rw [e]; exact hne
    · rw [e]; intro e2; injection e2 with e2; omega
  have hout1 : Own w1 26 1 (.slice (some ⟨gs, 0, none⟩) vs.length vs.length) vs.length vs := h.out.fr hf fun k hk hS => by
    injection hk with hk
    subst hk
    exact hne hS
  have hs := hout1.store i hil v'
  subst hw2
  have hfs : Fr (At1 gs) w1 (w1.setCell ⟨gs, i, none⟩ v') := fr_set _ _ _ _
  have other : ∀ (j : Nat) (u : Value), j ≠ i → vs[j]? = some u → ∀ k, u.ownBlock = some k → ¬ AtO v.ownBlock k := fun j u hj hu k hk hS => h.apart j i u v k hj hu h1 hk hS
  have hlt : ∀ (j : Nat) (u : Value), vs[j]? = some u → ∀ k, u.ownBlock = some k → k < w.heap.size ∧ k ≠ gs := fun j u hu k hk => by
    have hj : j < R.length := by rw [← h.len]; exact (List.getElem?_eq_some_iff.1 hu).1
    have ho := h.own j u _ hu (List.getElem?_eq_getElem hj)
    exact ⟨ho.lt k hk, fun e => h.ne hu (List.getElem?_eq_getElem hj) (by rw [hk, e])⟩
  refine ⟨by rw [List.length_set, List.length_set]; exact h.len, fun j u M hu hM => ?_, fun j u k hu hk => ?_, fun a b x y k hab hx hy hk => ?_, by rw [List.length_set]; exact hs.1, h.base⟩
  · by_cases e : j = i
    · subst e
      rw [List.getElem?_set_self hil] at hu
      rw [List.getElem?_set_self (by rw [← h.len]; exact hil)] at hM
      injection hu with hu
      injection hM with hM
      subst hu hM
      exact ho.fr hfs (fun k hk e2 => hne' (by rw [hk, show k = gs from e2]))
    · rw [List.getElem?_set_ne (fun e2 => e e2.symm)] at hu hM
      exact ((h.own j u M hu hM).fr hf (fun k hk => other j u e hu k hk)).fr hfs (fun k hk e2 => (hlt j u hu k hk).2 e2)
  · by_cases e : j = i
    · subst e
      rw [List.getElem?_set_self hil] at hu
      injection hu with hu
      subst hu
      rcases hn with e2 | ⟨k', e2, hk'⟩
      · rw [e2] at hk
        exact h.new j v k h1 hk
      · rw [e2] at hk
        injection hk with hk
        omega
    · rw [List.getElem?_set_ne (fun e2 => e e2.symm)] at hu
      exact h.new j u k hu hk
  · have new_other : ∀ (j : Nat) (u : Value), j ≠ i → vs[j]? = some u → ∀ k, u.ownBlock = some k → v'.ownBlock ≠ some k := fun j u hj hu k hk e2 => by
      rcases hn with e3 | ⟨k', e3, hk'⟩
      · rw [e3] at e2
        exact other j u hj hu k hk e2
      · rw [e3] at e2
        injection e2 with e2
        have := (hlt j u hu k hk).1
        omega
    by_cases ea : a = i
    · subst ea
      rw [List.getElem?_set_self hil] at hx
      rw [List.getElem?_set_ne (fun e2 => hab e2)] at hy
      injection hx with hx
      subst hx
      exact fun e2 => new_other b y (fun e => hab e.symm) hy k e2 hk
    · rw [List.getElem?_set_ne (fun e2 => ea e2.symm)] at hx
      by_cases eb : b = i
      · subst eb
        rw [List.getElem?_set_self hil] at hy
        injection hy with hy
        subst hy
        exact new_other a x ea hx k hk
      · rw [List.getElem?_set_ne (fun e2 => eb e2.symm)] at hy
        exact h.apart a b x y k hab hx hy hk
theorem IRows.zero (w : World) (m : Nat) (hm : m ≤ 1000000) : IRows w.heap.size (w.alloc (.cells (zrow m (.slice none 0 0)).toArray 26)) w.heap.size (zrow m (.slice none 0 0)) (List.replicate m []) where
  len := by rw [zrow_length, List.length_replicate]
  own i v L h1 h2 := by
    unfold zrow at h1
    rw [List.getElem?_replicate] at h1 h2
    split at h1
    · simp only [Option.some.injEq] at h1
      rw [if_pos (by assumption)] at h2
      simp only [Option.some.injEq] at h2
      subst h1 h2
      exact Own.nil _ _ _
    · cases h1
  new i v k h1 hk := by
    unfold zrow at h1
    rw [List.getElem?_replicate] at h1
    split at h1
    · simp only [Option.some.injEq] at h1
      subst h1
      cases hk
    · cases h1
  apart i j v u k _ h1 _ hk := by
    unfold zrow at h1
    rw [List.getElem?_replicate] at h1
    split at h1
    · simp only [Option.some.injEq] at h1
      subst h1
      cases hk
    · cases h1
  out := by
    rw [zrow_length]
    exact ⟨by rw [zrow_length]; omega, .inr ⟨w.heap.size, m, _, rfl, heap_alloc_new w _, Nat.le_refl _, by simp only [maxLen]; omega, by simp [zrow_length], by rw [Nat.mul_one]; exact List.take_of_length_le (by simp [zrow_length])⟩⟩
  base := Nat.le_refl _
/-- such rows may be read -/
theorem IRows.rdG (h : IRows B w gs vs R) : RdG w (fun k => B ≤ k) (some ⟨gs, 0, none⟩) R := by
  refine ⟨vs, ?_, fun i L hL => ?_⟩
  · have := h.out.rd.more (G := fun k => B ≤ k) (fun k hk => by injection hk with hk; subst hk; exact h.base)
    rw [h.len] at this
    exact this
  · obtain ⟨hi, rfl⟩ := List.getElem?_eq_some_iff.1 hL
    obtain ⟨A, c, h1, _, h3, h4, h5⟩ := h.cell hi
    exact ⟨A, c, h1, h3.rd.more (fun k hk => h.new i _ k h1 hk), h4, h5⟩
end

/-! ### numbers sorted -/
theorem is_at (l : List Int) (k : Nat) (h : k < l.length) : (is_ l)[k]? = some (.int .i64 l[k]) := by simp [is_, h]
theorem take_putI (F : Array Int) (cur : Array Value) (k : Nat) (hk : k ≤ F.size) (hl : F.size ≤ cur.size) : (putCells (Value.int .i64) 0 F cur).toList.take k = is_ (F.toList.take k) := by
  apply List.ext_getElem?
  intro t
  rw [List.getElem?_take]
  unfold is_
  rw [List.getElem?_map, List.getElem?_take]
  by_cases h : t < k
  · rw [if_pos h, if_pos h]
    unfold putCells
    simp only [Array.getElem?_toList, Array.getElem?_mapIdx]
    rw [Array.getElem?_eq_getElem (by omega), Array.getElem?_eq_getElem (by omega)]
    simp only [Option.map_some]
    rw [if_pos ⟨by omega, by omega⟩, getElem!_pos F (t - 0) (by omega)]
    simp
  · rw [if_neg h, if_neg h]
    rfl
theorem own_holdsI {w : World} {t : TypeId} {g n cap : Nat} {L : List Int} (h : Own w t 1 (.slice (some ⟨g, 0, none⟩) n cap) n (is_ L)) : Holds (Value.int .i64) w g 0 L.toArray ∧ g < w.heap.size ∧ L.length = n ∧ n ≤ cap := by
  have hlen : L.length = n := by have := h.1; rw [is_len] at this; omega
  rcases h.2 with ⟨h0, _⟩ | ⟨g', cap', cur, hv, hg, hle, hm, hs, ht⟩
  · cases h0
  · injection hv with hA hn hc
    injection hA with hA
    injection hA with hA
    subst hA hc
    refine ⟨fun j hj => ?_, (Array.getElem?_eq_some_iff.1 hg).1, hlen, hle⟩
    have hj' : j < L.length := by simpa using hj
    rw [Nat.zero_add, cell_of_row w g j cur _ _ hg, getElem!_pos L.toArray j hj]
    constructor
    · have : (cur.toList.take (n * 1))[j]? = (is_ L)[j]? := by rw [ht]
      rw [List.getElem?_take, if_pos (by omega), Array.getElem?_toList, is_at L j hj'] at this
      simpa using this
    · exact Blk.frozen (t := t) (cs := cur) hg j
theorem own_putI {w : World} {t : TypeId} {g n cap : Nat} {L : List Int} (h : Own w t 1 (.slice (some ⟨g, 0, none⟩) n cap) n (is_ L)) (q : Nat) (os : Array Obj) (F : Array Int) (hF : F.size = n) (k : Nat) (hk : k ≤ n) :
    Own (grow (putRow (Value.int .i64) (Sort.ahead w q) g 0 F) os) t 1 (.slice (some ⟨g, 0, none⟩) k cap) k (is_ (F.toList.take k)) ∧ Fr (At1 g) w (grow (putRow (Value.int .i64) (Sort.ahead w q) g 0 F) os) := by
  rcases h.2 with ⟨h0, _⟩ | ⟨g', cap', cur, hv, hg, hle, hm, hs, ht⟩
  · cases h0
  · injection hv with hA hn hc
    injection hA with hA
    injection hA with hA
    subst hA hc
    have hlt := (Array.getElem?_eq_some_iff.1 hg).1
    have hheap : (grow (putRow (Value.int .i64) (Sort.ahead w q) g 0 F) os).heap[g]? = some (.cells (putCells (Value.int .i64) 0 F cur) t (0, 0)) := by
      unfold putRow
      rw [heap_grow_old _ _ (by show g < (w.heap.modify g _).size; simpa using hlt)]
      show (w.heap.modify g _)[g]? = _
      rw [Array.getElem?_modify, if_pos rfl, hg]
      rfl
    constructor
    · refine ⟨by rw [is_len, List.length_take, Array.length_toList]; omega, .inr ⟨g, cap, _, rfl, hheap, by omega, hm, ?_, ?_⟩⟩
      · unfold putCells
        simpa using hs
      · rw [Nat.mul_one]
        exact take_putI F cur k (by omega) (by omega)
    · refine ⟨rfl, rfl, rfl, ?_, fun i hi hn => ?_⟩
      · show w.heap.size ≤ ((w.heap.modify g _) ++ os).size
        simp
      · unfold putRow
        rw [heap_grow_old _ _ (by show i < (w.heap.modify g _).size; simpa using hi)]
        show (w.heap.modify g _)[i]? = _
        rw [Array.getElem?_modify, if_neg (fun e : g = i => hn e.symm)]
def sortI (L : List Int) : List Int := L.mergeSort fun x y => decide (x ≤ y)
theorem sortI_any (L : List Int) (g cap : Nat) (w : World) (h : Own w 3 1 (.slice (some ⟨g, 0, none⟩) L.length cap) L.length (is_ L)) (hl : L.length ≤ 1000000) :
    Calls Try.prog 33 #[.slice (some ⟨g, 0, none⟩) L.length cap] w fun e w' => e = .returned (.tuple #[]) ∧ Own w' 3 1 (.slice (some ⟨g, 0, none⟩) L.length cap) L.length (is_ (sortI L)) ∧ Fr (At1 g) w w' := by
  obtain ⟨hH, hlt, hlen, hcap⟩ := own_holdsI h
  refine Calls.mono (AnyM.slices_Sort_int Try.sortI g 0 cap L w hH hlt (by omega)) ?_
  rintro e w' ⟨rfl, n, os, rfl⟩
  have h1 := own_putI h n os (L.mergeSort fun x y => decide (x ≤ y)).toArray (by simp) L.length (Nat.le_refl _)
  have e1 : ((L.mergeSort fun x y => decide (x ≤ y)).toArray.toList.take L.length) = L.mergeSort fun x y => decide (x ≤ y) := by
    rw [List.take_of_length_le (by simp)]
  rw [e1] at h1
  exact ⟨rfl, h1⟩
end Go.Proofs.Ytcjofakhefpfdaa
