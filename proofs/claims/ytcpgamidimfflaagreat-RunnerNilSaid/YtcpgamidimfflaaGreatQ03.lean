/- Rows of numbers in memory; slices.Sort of numbers. The graph without what is no place; who uses whom. Who uses whom: the graph turned round. -/
import Derived.Test.YtcpgamidimfflaaGreatQ02
import Derived.Test.YtcpgamidimfflaaGreatSortI
import Derived.Deep.RegionHeld3
import Derived.Deep.DrawnRows
import Derived.Deep.QuietTactic
import Derived.BigQuiet
import Derived.Deep.RegionLaw
import Derived.Test.YtcpgamidimfflaaGreatQ01
namespace Go.Proofs.YtcpgamidimfflaaGreat
open Go.RowKit Go.My Go.Maps Go.Shelf Go.Sort Go.Lib
set_option linter.unusedSimpArgs false
set_option linter.unusedVariables false
attribute [local go_sem ↓] Go.wp_at_zero Go.wp_at_succ
theorem elKI : El Tryz.prog 66 3 1 8 := ⟨Tryz.underlying66, by
  have h : (Tryz.prog.info? 3).map (fun i => (i.zero, i.size, i.bytes)) = some (some (.int .i64 0), 1, 8) := by kernel_rfl
  obtain ⟨i, hi, hz, hs, hb⟩ := info_parts h
  exact ⟨i, _, hi, hz, hs, hb, rfl⟩, by omega⟩
theorem elG : El Tryz.prog 107 66 1 24 := ⟨Tryz.underlying107, by
  have h : (Tryz.prog.info? 66).map (fun i => (i.zero, i.size, i.bytes)) = some (some (.slice none 0 0), 1, 24) := by kernel_rfl
  obtain ⟨i, hi, hz, hs, hb⟩ := info_parts h
  exact ⟨i, _, hi, hz, hs, hb, rfl⟩, by omega⟩
theorem zeroG : ∀ i, Tryz.prog.info? 66 = some i → i.zero = some (.slice none 0 0) := fun i hi => by
  have h : (Tryz.prog.info? 66).map (fun i => i.zero) = some (some (.slice none 0 0)) := by kernel_rfl
  rw [hi] at h
  simpa using h
theorem zeroKI : ∀ i, Tryz.prog.info? 3 = some i → i.zero = some (.int .i64 0) := fun i hi => by
  have h : (Tryz.prog.info? 3).map (fun i => i.zero) = some (some (.int .i64 0)) := by kernel_rfl
  rw [hi] at h
  simpa using h
theorem is_ones (l : List Int) : ∀ y ∈ is_ l, y.oneCell' = true := fun y hy => by
  unfold is_ at hy
  obtain ⟨x, _, rfl⟩ := List.mem_map.1 hy
  rfl
theorem is_len (l : List Int) : (is_ l).length = l.length := by simp [is_]
def RdG (w : World) (F : Nat → Prop) (A : Option Addr) (G : List (List Int)) : Prop :=
  ∃ vs : List Value, Rd w F 1 A G.length vs ∧ ∀ (i : Nat) (L : List Int), G[i]? = some L → ∃ (A' : Option Addr) (c : Nat), vs[i]? = some (Value.slice A' L.length c) ∧ Rd w F 1 A' L.length (is_ L) ∧ L.length ≤ c ∧ c ≤ maxLen
theorem RdG.fr {w w' : World} {F S : Nat → Prop} {A : Option Addr} {G : List (List Int)} (h : RdG w F A G) (hf : Fr S w w') (hn : ∀ k, F k → k < w.heap.size → ¬ S k) : RdG w' F A G := by
  obtain ⟨vs, hr, hE⟩ := h
  refine ⟨vs, hr.fr (by omega) hf hn, fun i L hL => ?_⟩
  obtain ⟨A', c, h1, h2, h3⟩ := hE i L hL
  exact ⟨A', c, h1, h2.fr (by omega) hf hn, h3⟩
theorem RdG.no {w w' : World} {F : Nat → Prop} {A : Option Addr} {G : List (List Int)} (h : RdG w F A G) (hf : Fr No w w') : RdG w' F A G := h.fr hf (fun _ _ _ h => h)
theorem RdG.more {w : World} {F F' : Nat → Prop} {A : Option Addr} {G : List (List Int)} (h : RdG w F A G) (hF : ∀ k, F k → F' k) : RdG w F' A G := by
  obtain ⟨vs, hr, hE⟩ := h
  refine ⟨vs, hr.more hF, fun i L hL => ?_⟩
  obtain ⟨A', c, h1, h2, h3⟩ := hE i L hL
  exact ⟨A', c, h1, h2.more hF, h3⟩
theorem RdG.at_ {w : World} {F : Nat → Prop} {A : Option Addr} {G : List (List Int)} (h : RdG w F A G) (k : Nat) (hk : k < G.length) :
    ∃ ad A' c, A = some ad ∧ w.cell? (ad.add k) = some (.slice A' G[k].length c) ∧ Rd w F 1 A' G[k].length (is_ G[k]) ∧ G[k].length ≤ c ∧ c ≤ maxLen := by
  obtain ⟨vs, hr, hE⟩ := h
  obtain ⟨ad, e, _, hc⟩ := hr.2 (by omega)
  obtain ⟨A', c, h1, h2, h3, h4⟩ := hE k _ (List.getElem?_eq_getElem hk)
  exact ⟨ad, A', c, e, hc k _ h1, h2, h3, h4⟩
structure IRows (B : Nat) (w : World) (gs : Nat) (vs : List Value) (R : List (List Int)) : Prop where
  len : vs.length = R.length
  own : ∀ (i : Nat) (v : Value) (L : List Int), vs[i]? = some v → R[i]? = some L → Own w 3 1 v L.length (is_ L)
  new : ∀ (i : Nat) (v : Value) (k : Nat), vs[i]? = some v → v.ownBlock = some k → B ≤ k
  apart : ∀ (i j : Nat) (v u : Value) (k : Nat), i ≠ j → vs[i]? = some v → vs[j]? = some u → v.ownBlock = some k → u.ownBlock ≠ some k
  out : Own w 66 1 (.slice (some ⟨gs, 0, none⟩) vs.length vs.length) vs.length vs
  base : B ≤ gs
section
variable {B : Nat} {w w' : World} {gs : Nat} {vs : List Value} {R : List (List Int)}
theorem IRows.no (h : IRows B w gs vs R) (hf : Fr No w w') : IRows B w' gs vs R where
  len := h.len
  own i v L h1 h2 := (h.own i v L h1 h2).fr hf (fun _ _ h => h)
  new := h.new
  apart := h.apart
  out := h.out.fr hf (fun _ _ h => h)
  base := h.base
theorem IRows.fr {S : Nat → Prop} (h : IRows B w gs vs R) (hf : Fr S w w') (hg : ¬ S gs) (hn : ∀ v ∈ vs, ∀ k, v.ownBlock = some k → ¬ S k) : IRows B w' gs vs R where
  len := h.len
  own i v L h1 h2 := (h.own i v L h1 h2).fr hf (fun k hk => hn v (List.mem_of_getElem? h1) k hk)
  new := h.new
  apart := h.apart
  out := h.out.fr hf (fun k hk => by injection hk with hk; subst hk; exact hg)
  base := h.base
theorem IRows.ne (h : IRows B w gs vs R) {i : Nat} {v : Value} {L : List Int} (h1 : vs[i]? = some v) (h2 : R[i]? = some L) : v.ownBlock ≠ some gs := by
  obtain ⟨cur, hc⟩ := h.out.blk gs rfl
  exact (h.own i v L h1 h2).ne_ hc (by decide)
theorem IRows.cell (h : IRows B w gs vs R) {i : Nat} (hi : i < R.length) : ∃ A c, vs[i]? = some (.slice A R[i].length c) ∧ w.cell? ⟨gs, i, none⟩ = some (.slice A R[i].length c) ∧ Own w 3 1 (.slice A R[i].length c) R[i].length (is_ R[i]) ∧ R[i].length ≤ c ∧ c ≤ maxLen := by
  have hv : i < vs.length := by rw [h.len]; exact hi
  have h1 : vs[i]? = some vs[i] := List.getElem?_eq_getElem hv
  have ho := h.own i _ _ h1 (List.getElem?_eq_getElem hi)
  obtain ⟨A, c, e, hc, hm⟩ := ho.form
  obtain ⟨ad, hA, _, hcell⟩ := h.out.rd.2 (by omega)
  injection hA with hA
  have hx := hcell i _ h1
  rw [← hA, add_zero, e] at hx
  rw [e] at ho h1
  exact ⟨A, c, h1, hx, ho, hc, hm⟩
theorem IRows.put {w1 w2 : World} (h : IRows B w gs vs R) {i : Nat} {v v' : Value} {L L' : List Int} (h1 : vs[i]? = some v) (h2 : R[i]? = some L)
    (hf : Fr (AtO v.ownBlock) w w1) (ho : Own w1 3 1 v' L'.length (is_ L')) (hn : v'.ownBlock = v.ownBlock ∨ ∃ k, v'.ownBlock = some k ∧ w.heap.size ≤ k) (hB : B ≤ w.heap.size)
    (hw2 : w2 = w1.setCell ⟨gs, i, none⟩ v') : IRows B w2 gs (vs.set i v') (R.set i L') := by
  have hne := h.ne h1 h2
  have hil : i < vs.length := (List.getElem?_eq_some_iff.1 h1).1
  have hgl : gs < w.heap.size := h.out.lt gs rfl
  have hne' : v'.ownBlock ≠ some gs := by
    rcases hn with e | ⟨k, e, hk⟩
    · rw [e]; exact hne
    · rw [e]; intro e2; injection e2 with e2; omega
  have hout1 : Own w1 66 1 (.slice (some ⟨gs, 0, none⟩) vs.length vs.length) vs.length vs := h.out.fr hf fun k hk hS => by
    injection hk with hk
    subst hk
    exact hne hS
  have hs := hout1.store i hil v'
  subst hw2
  have hfs : Fr (At1 gs) w1 (w1.setCell ⟨gs, i, none⟩ v') := fr_set _ _ _ _
  have other : ∀ (j : Nat) (u : Value), j ≠ i → vs[j]? = some u → ∀ k, u.ownBlock = some k → ¬ AtO v.ownBlock k := fun j u hj hu k hk hS => h.apart j i u v k hj hu h1 hk hS
  have hlt : ∀ (j : Nat) (u : Value), vs[j]? = some u → ∀ k, u.ownBlock = some k → k < w.heap.size ∧ k ≠ gs := fun j u hu k hk => by
    have hj : j < R.length := by rw [← h.len]; exact (List.getElem?_eq_some_iff.1 hu).1
    have ho := h.own j u _ hu (List.getElem?_eq_getElem hj)
    exact ⟨ho.lt k hk, fun e => h.ne hu (List.getElem?_eq_getElem hj) (by rw [hk, e])⟩
  refine ⟨by rw [List.length_set, List.length_set]; exact h.len, fun j u M hu hM => ?_, fun j u k hu hk => ?_, fun a b x y k hab hx hy hk => ?_, by rw [List.length_set]; exact hs.1, h.base⟩
  · by_cases e : j = i
    · subst e
      rw [List.getElem?_set_self hil] at hu
      rw [List.getElem?_set_self (by rw [← h.len]; exact hil)] at hM
      injection hu with hu
      injection hM with hM
      subst hu hM
      exact ho.fr hfs (fun k hk e2 => hne' (by rw [hk, show k = gs from e2]))
    · rw [List.getElem?_set_ne (fun e2 => e e2.symm)] at hu hM
      exact ((h.own j u M hu hM).fr hf (fun k hk => other j u e hu k hk)).fr hfs (fun k hk e2 => (hlt j u hu k hk).2 e2)
  · by_cases e : j = i
    · subst e
      rw [List.getElem?_set_self hil] at hu
      injection hu with hu
      subst hu
      rcases hn with e2 | ⟨k', e2, hk'⟩
      · rw [e2] at hk
        exact h.new j v k h1 hk
      · rw [e2] at hk
        injection hk with hk
        omega
    · rw [List.getElem?_set_ne (fun e2 => e e2.symm)] at hu
      exact h.new j u k hu hk
  · have new_other : ∀ (j : Nat) (u : Value), j ≠ i → vs[j]? = some u → ∀ k, u.ownBlock = some k → v'.ownBlock ≠ some k := fun j u hj hu k hk e2 => by
      rcases hn with e3 | ⟨k', e3, hk'⟩
      · rw [e3] at e2
        exact other j u hj hu k hk e2
      · rw [e3] at e2
        injection e2 with e2
        have := (hlt j u hu k hk).1
        omega
    by_cases ea : a = i
    · subst ea
      rw [List.getElem?_set_self hil] at hx
      rw [List.getElem?_set_ne (fun e2 => hab e2)] at hy
      injection hx with hx
      subst hx
      exact fun e2 => new_other b y (fun e => hab e.symm) hy k e2 hk
    · rw [List.getElem?_set_ne (fun e2 => ea e2.symm)] at hx
      by_cases eb : b = i
      · subst eb
        rw [List.getElem?_set_self hil] at hy
        injection hy with hy
        subst hy
        exact new_other a x ea hx k hk
      · rw [List.getElem?_set_ne (fun e2 => eb e2.symm)] at hy
        exact h.apart a b x y k hab hx hy hk
theorem IRows.zero (w : World) (m : Nat) (hm : m ≤ 1000000) : IRows w.heap.size (w.alloc (.cells (zrow m (.slice none 0 0)).toArray 66)) w.heap.size (zrow m (.slice none 0 0)) (List.replicate m []) where
  len := by rw [zrow_length, List.length_replicate]
  own i v L h1 h2 := by
    unfold zrow at h1
    rw [List.getElem?_replicate] at h1 h2
    split at h1
    · simp only [Option.some.injEq] at h1
      rw [if_pos (by assumption)] at h2
      simp only [Option.some.injEq] at h2
      subst h1 h2
      exact Own.nil _ _ _
    · cases h1
  new i v k h1 hk := by
    unfold zrow at h1
    rw [List.getElem?_replicate] at h1
    split at h1
    · simp only [Option.some.injEq] at h1
      subst h1
      cases hk
    · cases h1
  apart i j v u k _ h1 _ hk := by
    unfold zrow at h1
    rw [List.getElem?_replicate] at h1
    split at h1
    · simp only [Option.some.injEq] at h1
      subst h1
      cases hk
    · cases h1
  out := by
    rw [zrow_length]
    exact ⟨by rw [zrow_length]; omega, .inr ⟨w.heap.size, m, _, rfl, heap_alloc_new w _, Nat.le_refl _, by simp only [maxLen]; omega, by simp [zrow_length], by rw [Nat.mul_one]; exact List.take_of_length_le (by simp [zrow_length])⟩⟩
  base := Nat.le_refl _
theorem IRows.rdG (h : IRows B w gs vs R) : RdG w (fun k => B ≤ k) (some ⟨gs, 0, none⟩) R := by
  refine ⟨vs, ?_, fun i L hL => ?_⟩
  · have := h.out.rd.more (G := fun k => B ≤ k) (fun k hk => by injection hk with hk; subst hk; exact h.base)
    rw [h.len] at this
    exact this
  · obtain ⟨hi, rfl⟩ := List.getElem?_eq_some_iff.1 hL
    obtain ⟨A, c, h1, _, h3, h4, h5⟩ := h.cell hi
    exact ⟨A, c, h1, h3.rd.more (fun k hk => h.new i _ k h1 hk), h4, h5⟩
end
theorem is_at (l : List Int) (k : Nat) (h : k < l.length) : (is_ l)[k]? = some (.int .i64 l[k]) := by simp [is_, h]
theorem take_putI (F : Array Int) (cur : Array Value) (k : Nat) (hk : k ≤ F.size) (hl : F.size ≤ cur.size) : (putCells (Value.int .i64) 0 F cur).toList.take k = is_ (F.toList.take k) := by
  apply List.ext_getElem?
  intro t
  rw [List.getElem?_take]
  unfold is_
  rw [List.getElem?_map, List.getElem?_take]
  by_cases h : t < k
  · rw [if_pos h, if_pos h]
    unfold putCells
    simp only [Array.getElem?_toList, Array.getElem?_mapIdx]
    rw [Array.getElem?_eq_getElem (by omega), Array.getElem?_eq_getElem (by omega)]
    simp only [Option.map_some]
    rw [if_pos ⟨by omega, by omega⟩, getElem!_pos F (t - 0) (by omega)]
    simp
  · rw [if_neg h, if_neg h]
    rfl
theorem own_holdsI {w : World} {t : TypeId} {g n cap : Nat} {L : List Int} (h : Own w t 1 (.slice (some ⟨g, 0, none⟩) n cap) n (is_ L)) : Holds (Value.int .i64) w g 0 L.toArray ∧ g < w.heap.size ∧ L.length = n ∧ n ≤ cap := by
  have hlen : L.length = n := by have := h.1; rw [is_len] at this; omega
  rcases h.2 with ⟨h0, _⟩ | ⟨g', cap', cur, hv, hg, hle, hm, hs, ht⟩
  · cases h0
  · injection hv with hA hn hc
    injection hA with hA
    injection hA with hA
    subst hA hc
    refine ⟨fun j hj => ?_, (Array.getElem?_eq_some_iff.1 hg).1, hlen, hle⟩
    have hj' : j < L.length := by simpa using hj
    rw [Nat.zero_add, cell_of_row w g j cur _ _ hg, getElem!_pos L.toArray j hj]
    constructor
    · have : (cur.toList.take (n * 1))[j]? = (is_ L)[j]? := by rw [ht]
      rw [List.getElem?_take, if_pos (by omega), Array.getElem?_toList, is_at L j hj'] at this
      simpa using this
    · exact Blk.frozen (t := t) (cs := cur) hg j
theorem own_putI {w : World} {t : TypeId} {g n cap : Nat} {L : List Int} (h : Own w t 1 (.slice (some ⟨g, 0, none⟩) n cap) n (is_ L)) (q : Nat) (os : Array Obj) (F : Array Int) (hF : F.size = n) (k : Nat) (hk : k ≤ n) :
    Own (grow (putRow (Value.int .i64) (Sort.ahead w q) g 0 F) os) t 1 (.slice (some ⟨g, 0, none⟩) k cap) k (is_ (F.toList.take k)) ∧ Fr (At1 g) w (grow (putRow (Value.int .i64) (Sort.ahead w q) g 0 F) os) := by
  rcases h.2 with ⟨h0, _⟩ | ⟨g', cap', cur, hv, hg, hle, hm, hs, ht⟩
  · cases h0
  · injection hv with hA hn hc
    injection hA with hA
    injection hA with hA
    subst hA hc
    have hlt := (Array.getElem?_eq_some_iff.1 hg).1
    have hheap : (grow (putRow (Value.int .i64) (Sort.ahead w q) g 0 F) os).heap[g]? = some (.cells (putCells (Value.int .i64) 0 F cur) t (0, 0)) := by
      unfold putRow
      rw [heap_grow_old _ _ (by show g < (w.heap.modify g _).size; simpa using hlt)]
      show (w.heap.modify g _)[g]? = _
      rw [Array.getElem?_modify, if_pos rfl, hg]
      rfl
    constructor
    · refine ⟨by rw [is_len, List.length_take, Array.length_toList]; omega, .inr ⟨g, cap, _, rfl, hheap, by omega, hm, ?_, ?_⟩⟩
      · unfold putCells
        simpa using hs
      · rw [Nat.mul_one]
        exact take_putI F cur k (by omega) (by omega)
    · refine ⟨rfl, rfl, rfl, ?_, fun i hi hn => ?_⟩
      · show w.heap.size ≤ ((w.heap.modify g _) ++ os).size
        simp
      · unfold putRow
        rw [heap_grow_old _ _ (by show i < (w.heap.modify g _).size; simpa using hi)]
        show (w.heap.modify g _)[i]? = _
        rw [Array.getElem?_modify, if_neg (fun e : g = i => hn e.symm)]
def sortI (L : List Int) : List Int := L.mergeSort fun x y => decide (x ≤ y)
theorem sortI_any (L : List Int) (g cap : Nat) (w : World) (h : Own w 3 1 (.slice (some ⟨g, 0, none⟩) L.length cap) L.length (is_ L)) (hl : L.length ≤ 1000000) :
    Calls Tryz.prog 166 #[.slice (some ⟨g, 0, none⟩) L.length cap] w fun e w' => e = .returned (.tuple #[]) ∧ Own w' 3 1 (.slice (some ⟨g, 0, none⟩) L.length cap) L.length (is_ (sortI L)) ∧ Fr (At1 g) w w' := by
  obtain ⟨hH, hlt, hlen, hcap⟩ := own_holdsI h
  refine Calls.mono (AnyM.slices_Sort_int Tryz.sortI g 0 cap L w hH hlt (by omega)) ?_
  rintro e w' ⟨rfl, n, os, rfl⟩
  have h1 := own_putI h n os (L.mergeSort fun x y => decide (x ≤ y)).toArray (by simp) L.length (Nat.le_refl _)
  have e1 : ((L.mergeSort fun x y => decide (x ≤ y)).toArray.toList.take L.length) = L.mergeSort fun x y => decide (x ≤ y) := by
    rw [List.take_of_length_le (by simp)]
  rw [e1] at h1
  exact ⟨rfl, h1⟩
end Go.Proofs.YtcpgamidimfflaaGreat
namespace Go.Proofs.YtcpgamidimfflaaGreat
open Go.RowKit Go.My Go.Maps
set_option linter.unusedSimpArgs false
set_option linter.unusedVariables false
attribute [local go_sem ↓] Go.wp_at_zero Go.wp_at_succ
def rows (f : Nat → List Int) (n : Nat) : List (List Int) := (List.range n).map f
theorem rows_length (f : Nat → List Int) (n : Nat) : (rows f n).length = n := by unfold rows; simp
theorem rows_get (f : Nat → List Int) (n k : Nat) (h : k < n) : (rows f n)[k]? = some (f k) := by unfold rows; simp [h]
theorem rows_getE (f : Nat → List Int) (n k : Nat) (h : k < (rows f n).length) : (rows f n)[k] = f k := by
  have h2 := rows_get f n k (by rwa [rows_length] at h)
  rw [List.getElem?_eq_getElem h] at h2
  injection h2
theorem rows_congr {f g : Nat → List Int} {n : Nat} (h : ∀ k, k < n → f k = g k) : rows f n = rows g n := by
  unfold rows
  exact List.map_congr_left fun k hk => h k (by simpa using hk)
theorem rows_set (f : Nat → List Int) (n i : Nat) (x : List Int) : (rows f n).set i x = rows (fun k => if k = i then x else f k) n := by
  apply List.ext_getElem?
  intro k
  by_cases hk : k < n
  · by_cases e : k = i
    · subst e
      rw [List.getElem?_set_self (by rw [rows_length]; exact hk), rows_get _ _ _ hk, if_pos rfl]
    · rw [List.getElem?_set_ne (fun e2 => e e2.symm), rows_get _ _ _ hk, rows_get _ _ _ hk, if_neg e]
  · rw [List.getElem?_eq_none (by rw [List.length_set, rows_length]; omega), List.getElem?_eq_none (by rw [rows_length]; omega)]
theorem rows_nil (n : Nat) : rows (fun _ => []) n = List.replicate n [] := by
  apply List.ext_getElem?
  intro k
  by_cases hk : k < n
  · rw [rows_get _ _ _ hk, List.getElem?_replicate, if_pos hk]
  · rw [List.getElem?_eq_none (by rw [rows_length]; omega), List.getElem?_replicate, if_neg hk]
def inR (n : Nat) (x : Int) : Bool := decide (0 ≤ x ∧ x < n)
def gat (G : List (List Int)) (k : Nat) : List Int := G.getD k []
theorem gat_at {G : List (List Int)} {k : Nat} (h : k < G.length) : gat G k = G[k] := by unfold gat; simp [h]
def propG (G : List (List Int)) : List (List Int) := rows (fun k => (gat G k).filter (inR G.length)) G.length
def partP (G : List (List Int)) (i j k : Nat) : List Int := if k < i then (gat G k).filter (inR G.length) else if k = i then ((gat G k).take j).filter (inR G.length) else []
theorem partP_len (G : List (List Int)) (i j k : Nat) : (partP G i j k).length ≤ (gat G k).length := by
  unfold partP
  split
  · exact List.length_filter_le _ _
  · split
    · exact Nat.le_trans (List.length_filter_le _ _) (by rw [List.length_take]; omega)
    · simp
theorem partP_zero (G : List (List Int)) : rows (partP G 0 0) G.length = List.replicate G.length [] := by
  rw [← rows_nil]
  refine rows_congr fun k _ => ?_
  unfold partP
  rw [if_neg (by omega)]
  split <;> simp
theorem partP_push {G : List (List Int)} {i j : Nat} (hj : j < (gat G i).length) (h : inR G.length (gat G i)[j] = true) : (rows (partP G i j) G.length).set i (partP G i j i ++ [(gat G i)[j]]) = rows (partP G i (j + 1)) G.length := by
  rw [rows_set]
  refine rows_congr fun k _ => ?_
  unfold partP
  by_cases e : k = i
  · subst e
    rw [if_pos rfl, if_neg (by omega), if_pos rfl, if_neg (by omega), if_pos rfl, List.take_succ_eq_append_getElem hj, List.filter_append, List.filter_cons, if_pos h, List.filter_nil]
  · rw [if_neg e, if_neg e, if_neg e]
theorem partP_skip {G : List (List Int)} {i j : Nat} (hj : j < (gat G i).length) (h : inR G.length (gat G i)[j] = false) : rows (partP G i j) G.length = rows (partP G i (j + 1)) G.length := by
  refine rows_congr fun k _ => ?_
  unfold partP
  by_cases e : k = i
  · subst e
    rw [if_neg (by omega), if_pos rfl, if_neg (by omega), if_pos rfl, List.take_succ_eq_append_getElem hj, List.filter_append, List.filter_cons, if_neg (by rw [h]; simp), List.filter_nil, List.append_nil]
  · rw [if_neg e, if_neg e]
theorem partP_next (G : List (List Int)) (i : Nat) : rows (partP G i (gat G i).length) G.length = rows (partP G (i + 1) 0) G.length := by
  refine rows_congr fun k _ => ?_
  unfold partP
  by_cases h : k < i
  · rw [if_pos h, if_pos (by omega)]
  · rw [if_neg h]
    by_cases e : k = i
    · subst e
      rw [if_pos rfl, if_pos (by omega), List.take_length]
    · rw [if_neg e, if_neg (by omega)]
      split <;> simp
theorem partP_all (G : List (List Int)) : rows (partP G G.length 0) G.length = propG G := by
  refine rows_congr fun k hk => ?_
  unfold partP
  rw [if_pos hk]
def PO (w : World) (G : List (List Int)) (iv : Value) (wr : World) : Prop := ∃ (i : Nat) (vs : List Value), i ≤ G.length ∧ iv = .int .i64 i ∧ IRows w.heap.size wr w.heap.size vs (rows (partP G i 0) G.length) ∧ Fr No w wr
def PI (w : World) (G : List (List Int)) (i : Nat) (jv : Value) (wr : World) : Prop := ∃ (j : Nat) (vs : List Value), j ≤ (gat G i).length ∧ jv = .int .i64 j ∧ IRows w.heap.size wr w.heap.size vs (rows (partP G i j) G.length) ∧ Fr No w wr
def RetG (w : World) (G : List (List Int)) (e : Ending) (w' : World) : Prop := ∃ (gs : Nat) (vs : List Value), e = .returned (.slice (some ⟨gs, 0, none⟩) G.length G.length) ∧ IRows w.heap.size w' gs vs G ∧ Fr No w w'
set_option maxRecDepth 100000 in
set_option maxHeartbeats 2000000 in
theorem proper_any (w : World) (F : Nat → Prop) (A : Option Addr) (c : Nat) (G : List (List Int)) (hg : RdG w F A G) (hn : G.length ≤ 100000) (hm : ∀ L ∈ G, L.length ≤ 100000) :
    Calls Tryz.prog 128 #[.slice A G.length c] w (RetG w (propG G)) := by
  have HG := Lib.hid hg
  have HM : Hid (∀ k, (gat G k).length ≤ 100000) := fun k => by
    unfold gat
    by_cases hk : k < G.length
    · rw [List.getD_eq_getElem?_getD, List.getElem?_eq_getElem hk]
      exact hm _ (List.getElem_mem hk)
    · rw [List.getD_eq_getElem?_getD, List.getElem?_eq_none (by omega)]
      simp
  have hmk := fun W => run_make1 (P := Tryz.prog) elG zeroG rfl .i64 .i64 G.length (by omega) (by simp only [maxLen]; omega) W
  have HZ : Hid (IRows w.heap.size (w.alloc (.cells (zrow G.length (.slice none 0 0)).toArray 66)) w.heap.size (zrow G.length (.slice none 0 0)) (rows (partP G 0 0) G.length)) := by
    rw [partP_zero]
    exact IRows.zero w G.length (by omega)
  clear hg hm
  go_enter Tryz.func128, Tryz.ntmps128
  go_wp2
  go_loopw [13] (fun iv wr => PO w G iv wr) (fun iv _ => G.length - (intOf iv).toNat)
  case atStart => exact ⟨0, _, Nat.zero_le _, rfl, HZ.out, (Fr.refl _ _).alloc _⟩
  case round =>
    obtain ⟨i, vs, hi, rfl, hR, hfr⟩ := hrel
    by_cases hlt : i < G.length
    · obtain ⟨ad, A', c', rfl, hc0, hrow, hlc, hcm⟩ := HG.out.at_ i hlt
      have hc := hfr.cell_some hc0 (fun h => h)
      rw [← gat_at hlt] at hc hc0 hrow hlc
      have HR := Lib.hid hR
      have HFR := Lib.hid hfr
      have HROW : Hid (∀ W, Fr No w W → Rd W F 1 A' (gat G i).length (is_ (gat G i))) := fun W hW => hrow.fr (by decide) hW (fun _ _ _ h => h)
      have hml := HM.out i
      clear hR hfr hrow hc0
      have HGI : Hid (gat G i = gat G i) := rfl
      go_wp2
      generalize wr = wo at *
      go_loopw [20] (fun jv wr => PI w G i jv wr) (fun jv _ => (gat G i).length - (intOf jv).toNat)
      case atStart => exact ⟨0, vs, Nat.zero_le _, rfl, HR.out, HFR.out⟩
      case round =>
        obtain ⟨j, us, hj, rfl, hRj, hfj⟩ := hrel
        by_cases hlj : j < (gat G i).length
        · obtain ⟨ad2, u, rfl, _, hu, hx⟩ := (HROW.out wr hfj).at_ hlj
          rw [is_at _ j hlj] at hu
          injection hu with hu
          subst hu
          obtain ⟨A1, c1, hv1, hcell, hown, hlc1, hcm1⟩ := hRj.cell (i := i) (by rw [rows_length]; exact hlt)
          rw [rows_getE] at hv1 hcell hown hlc1
          have hpl := partP_len G i j i
          have HFJ := Lib.hid hfj
          have HRJ := Lib.hid hRj
          have hin := fun h => partP_push (G := G) (i := i) (j := j) hlj h
          have hout := fun h => partP_skip (G := G) (i := i) (j := j) hlj h
          generalize (gat G i)[j] = x at *
          by_cases hb : inR G.length x = true
          · have HPU := Lib.hid (hin hb)
            have hb2 : 0 ≤ x ∧ x < G.length := by unfold inR at hb; exact of_decide_eq_true hb
            obtain ⟨hb3, hb4⟩ := hb2
            obtain ⟨cur, hcur⟩ := hRj.out.blk w.heap.size rfl
            have hrow : (rows (partP G i j) G.length)[i]? = some (partP G i j i) := rows_get _ _ _ hlt
            have HV1 := Lib.hid hv1
            have HRW := Lib.hid hrow
            have HOW := Lib.hid hown
            have HCUR := Lib.hid hcur
            clear hin hout hb hRj hfj hv1 hrow hcur
            generalize hPL : partP G i j i = L at *
            have hLl : (L.length : Int) ≤ 100000 := by omega
            go_wp2_with (at_builtin; refine wpList_app _ rfl (.tmp 37) (.tmp 39) 66 66 rfl elKI (HOW.out.alloc (.cells #[.int .i64 x] 3)) rfl (Src.of_new (cs := #[.int .i64 x]) (t := 3) wr.heap.size (heap_alloc_new wr _) Tryz.underlying66 rfl (by simp [Value.oneCell'])) rfl (by simp only [maxLen]; omega) (by omega) ?_; intro v3 w3 hown3 hfr3 hnew3; obtain ⟨A3, c3, rfl, -, -⟩ := hown3.form; have hne := HOW.out.ne_ HCUR.out (by decide); have hcu := (HCUR.out.alloc (.cells #[.int .i64 x] 3)).fr hfr3 hne; have k1 := hcu.frozen i; have kc := hfr3.cell_some (((Fr.refl No wr).alloc (.cells #[.int .i64 x] 3)).cell_some hcell (fun h => h)) hne)
            have hput := (HRJ.out.no ((Fr.refl No wr).alloc (.cells #[.int .i64 x] 3))).put (L' := L ++ [x]) HV1.out HRW.out hfr3 (by rw [List.length_append, is_append]; exact hown3) (hnew3.imp id (fun e => ⟨_, e, Nat.le_refl _⟩)) (by have := HFJ.out.size; simp; omega) rfl
            rw [HPU.out] at hput
            have HPT := Lib.hid hput
            have HF3 : Hid (Fr No w (w3.setCell ⟨w.heap.size, i, none⟩ (.slice A3 (L.length + 1) c3))) := ((HFJ.out.alloc (.cells #[.int .i64 x] 3)).trans' hfr3 (fun k hk hlt => by
              have h1 := HRJ.out.new i _ k HV1.out hk
              omega)).trans' (fr_set _ w.heap.size i _) (fun k hk hlt => by
              have : k = w.heap.size := hk
              omega)
            clear hput hown3 hfr3 hnew3
            go_wp2
            go_roundw
            case rel => exact ⟨j + 1, _, by omega, by go_num, HPT.out, HF3.out⟩
            case measure => simp [intOf]; omega
          · have hb1 : inR G.length x = false := by simpa using hb
            have HSK := Lib.hid (hout hb1)
            have hb2 : ¬ (0 ≤ x ∧ x < G.length) := by unfold inR at hb1; exact of_decide_eq_false hb1
            clear hin hout hb hb1 hRj hfj
            by_cases h0 : 0 ≤ x
            · have h1 : ¬ (x < G.length) := fun h => hb2 ⟨h0, h⟩
              clear hb2
              go_wp2
              go_roundw
              case rel => exact ⟨j + 1, us, by omega, by go_num, by rw [← HSK.out]; exact HRJ.out, HFJ.out⟩
              case measure => simp [intOf]; omega
            · clear hb2
              go_wp2
              go_roundw
              case rel => exact ⟨j + 1, us, by omega, by go_num, by rw [← HSK.out]; exact HRJ.out, HFJ.out⟩
              case measure => simp [intOf]; omega
        · obtain rfl : j = (gat G i).length := by omega
          rw [partP_next] at hRj
          have HRJ := Lib.hid hRj
          have HFJ := Lib.hid hfj
          clear hRj hfj
          go_wp2
          go_roundw
          case rel => exact ⟨i + 1, us, by omega, by go_num, HRJ.out, HFJ.out⟩
          case measure => simp [intOf]; omega
    · obtain rfl : i = G.length := by omega
      rw [partP_all] at hR
      have HR := Lib.hid hR
      have HFR := Lib.hid hfr
      have hlen : (propG G).length = G.length := rows_length _ _
      clear hR hfr
      go_wp2
      go_ret
      exact ⟨w.heap.size, vs, by rw [hlen]; rfl, HR.out, HFR.out⟩
end Go.Proofs.YtcpgamidimfflaaGreat
namespace Go.Proofs.YtcpgamidimfflaaGreat
open Go.RowKit Go.My Go.Maps
set_option linter.unusedSimpArgs false
set_option linter.unusedVariables false
attribute [local go_sem ↓] Go.wp_at_zero Go.wp_at_succ
def usA (P : List (List Int)) (a : Nat) (L : List Int) (b : Nat) : List Int := (L.filter fun x => x == (b : Int)).map fun _ => (a : Int)
def usF (P : List (List Int)) (i j b : Nat) : List Int := ((List.range i).flatMap fun a => usA P a (gat P a) b) ++ usA P i ((gat P i).take j) b
def usersG (P : List (List Int)) : List (List Int) := rows (fun b => (List.range P.length).flatMap fun a => usA P a (gat P a) b) P.length
theorem usF_zero (P : List (List Int)) : rows (usF P 0 0) P.length = List.replicate P.length [] := by
  rw [← rows_nil]
  refine rows_congr fun k _ => ?_
  unfold usF usA
  simp
theorem usA_append (P : List (List Int)) (a : Nat) (L M : List Int) (b : Nat) : usA P a (L ++ M) b = usA P a L b ++ usA P a M b := by
  unfold usA
  rw [List.filter_append, List.map_append]
theorem usF_push {P : List (List Int)} {i j k : Nat} (hj : j < (gat P i).length) (hk : (gat P i)[j] = (k : Int)) : (rows (usF P i j) P.length).set k (usF P i j k ++ [(i : Int)]) = rows (usF P i (j + 1)) P.length := by
  rw [rows_set]
  refine rows_congr fun b _ => ?_
  unfold usF
  rw [List.take_succ_eq_append_getElem hj, usA_append, hk]
  by_cases e : b = k
  · subst e
    rw [if_pos rfl, List.append_assoc]
    unfold usA
    simp
  · rw [if_neg e]
    unfold usA
    have : ((k : Int) == (b : Int)) = false := beq_eq_false_iff_ne.2 (by omega)
    simp [this]
theorem usF_next (P : List (List Int)) (i : Nat) : rows (usF P i (gat P i).length) P.length = rows (usF P (i + 1) 0) P.length := by
  refine rows_congr fun b _ => ?_
  unfold usF
  rw [List.take_length, List.range_succ, List.flatMap_append]
  unfold usA
  simp
theorem usF_all (P : List (List Int)) : rows (usF P P.length 0) P.length = usersG P := by
  refine rows_congr fun b _ => ?_
  unfold usF usA
  simp
theorem usA_len (P : List (List Int)) (a : Nat) (L : List Int) (b : Nat) : (usA P a L b).length ≤ L.length := by
  unfold usA
  rw [List.length_map]
  exact List.length_filter_le _ _
theorem usF_len (P : List (List Int)) (M : Nat) (hM : ∀ k, (gat P k).length ≤ M) (i j b : Nat) : (usF P i j b).length ≤ (i + 1) * M := by
  have h1 : ∀ i, ((List.range i).flatMap fun a => usA P a (gat P a) b).length ≤ i * M := by
    intro i
    induction i with
    | zero => simp
    | succ i ih =>
      rw [List.range_succ, List.flatMap_append, List.length_append]
      have h2 := usA_len P i (gat P i) b
      have h3 := hM i
      have h4 : (List.flatMap (fun a => usA P a (gat P a) b) [i]).length ≤ M := by simp; omega
      rw [Nat.succ_mul]
      omega
  unfold usF
  rw [List.length_append, Nat.succ_mul]
  have h2 := usA_len P i ((gat P i).take j) b
  have h3 := hM i
  have h4 : ((gat P i).take j).length ≤ (gat P i).length := by rw [List.length_take]; omega
  have := h1 i
  omega
def UO (w : World) (G : List (List Int)) (iv : Value) (wr : World) : Prop := ∃ (i : Nat) (vs : List Value), i ≤ G.length ∧ iv = .int .i64 i ∧ IRows w.heap.size wr w.heap.size vs (rows (usF G i 0) G.length) ∧ Fr No w wr
def UI (w : World) (G : List (List Int)) (i : Nat) (jv : Value) (wr : World) : Prop := ∃ (j : Nat) (vs : List Value), j ≤ (gat G i).length ∧ jv = .int .i64 j ∧ IRows w.heap.size wr w.heap.size vs (rows (usF G i j) G.length) ∧ Fr No w wr
set_option maxRecDepth 100000 in
set_option maxHeartbeats 2000000 in
theorem users_any (w : World) (F : Nat → Prop) (A : Option Addr) (c : Nat) (G : List (List Int)) (hg : RdG w F A G) (hn : G.length ≤ 1000) (hm : ∀ L ∈ G, L.length ≤ 10000) (hp : ∀ L ∈ G, ∀ x ∈ L, 0 ≤ x ∧ x < G.length) :
    Calls Tryz.prog 127 #[.slice A G.length c] w (RetG w (usersG G)) := by
  have HG := Lib.hid hg
  have HM : Hid (∀ k, (gat G k).length ≤ 10000) := fun k => by
    unfold gat
    by_cases hk : k < G.length
    · rw [List.getD_eq_getElem?_getD, List.getElem?_eq_getElem hk]
      exact hm _ (List.getElem_mem hk)
    · rw [List.getD_eq_getElem?_getD, List.getElem?_eq_none (by omega)]
      simp
  have hmk := fun W => run_make1 (P := Tryz.prog) elG zeroG rfl .i64 .i64 G.length (by omega) (by simp only [maxLen]; omega) W
  have HZ : Hid (IRows w.heap.size (w.alloc (.cells (zrow G.length (.slice none 0 0)).toArray 66)) w.heap.size (zrow G.length (.slice none 0 0)) (rows (usF G 0 0) G.length)) := by
    rw [usF_zero]
    exact IRows.zero w G.length (by omega)
  have HP : Hid (∀ i j (h : j < (gat G i).length), ∃ k : Nat, (gat G i)[j] = (k : Int) ∧ k < G.length) := fun i j h => by
    by_cases hi : i < G.length
    · have h2 := hp (gat G i) (by rw [gat_at hi]; exact List.getElem_mem hi) _ (List.getElem_mem h)
      exact ⟨(gat G i)[j].toNat, by omega, by omega⟩
    · unfold gat at h
      rw [List.getD_eq_getElem?_getD, List.getElem?_eq_none (by omega)] at h
      simp at h
  clear hg hm hp
  go_enter Tryz.func127, Tryz.ntmps127
  go_wp2
  go_loopw [13] (fun iv wr => UO w G iv wr) (fun iv _ => G.length - (intOf iv).toNat)
  case atStart => exact ⟨0, _, Nat.zero_le _, rfl, HZ.out, (Fr.refl _ _).alloc _⟩
  case round =>
    obtain ⟨i, vs, hi, rfl, hR, hfr⟩ := hrel
    by_cases hlt : i < G.length
    · obtain ⟨ad, A', c', rfl, hc0, hrow, hlc, hcm⟩ := HG.out.at_ i hlt
      have hc := hfr.cell_some hc0 (fun h => h)
      rw [← gat_at hlt] at hc hc0 hrow hlc
      have HR := Lib.hid hR
      have HFR := Lib.hid hfr
      have HROW : Hid (∀ W, Fr No w W → Rd W F 1 A' (gat G i).length (is_ (gat G i))) := fun W hW => hrow.fr (by decide) hW (fun _ _ _ h => h)
      have hml := HM.out i
      clear hR hfr hrow hc0
      have HGI : Hid (gat G i = gat G i) := rfl
      go_wp2
      generalize wr = wo at *
      go_loopw [20] (fun jv wr => UI w G i jv wr) (fun jv _ => (gat G i).length - (intOf jv).toNat)
      case atStart => exact ⟨0, vs, Nat.zero_le _, rfl, HR.out, HFR.out⟩
      case round =>
        obtain ⟨j, us, hj, rfl, hRj, hfj⟩ := hrel
        by_cases hlj : j < (gat G i).length
        · obtain ⟨ad2, u, rfl, _, hu, hx⟩ := (HROW.out wr hfj).at_ hlj
          rw [is_at _ j hlj] at hu
          injection hu with hu
          subst hu
          obtain ⟨kx, hkx, hkn⟩ := HP.out i j hlj
          have HPU : Hid ((rows (usF G i j) G.length).set kx (usF G i j kx ++ [(i : Int)]) = rows (usF G i (j + 1)) G.length) := usF_push hlj hkx
          rw [hkx] at hx
          obtain ⟨A1, c1, hv1, hcell, hown, hlc1, hcm1⟩ := hRj.cell (i := kx) (by rw [rows_length]; exact hkn)
          rw [rows_getE] at hv1 hcell hown hlc1
          have hpl := usF_len G 10000 HM.out i j kx
          have hpl2 : (i + 1) * 10000 ≤ 10010000 := by omega
          have HFJ := Lib.hid hfj
          have HRJ := Lib.hid hRj
          obtain ⟨cur, hcur⟩ := hRj.out.blk w.heap.size rfl
          have HV1 := Lib.hid hv1
          have HRW : Hid ((rows (usF G i j) G.length)[kx]? = some (usF G i j kx)) := rows_get _ _ _ hkn
          have HOW := Lib.hid hown
          have HCUR := Lib.hid hcur
          clear hRj hfj hv1 hcur hkx
          generalize hPL : usF G i j kx = L at *
          have hLl : (L.length : Int) ≤ 10010000 := by omega
          clear hpl hpl2
          go_wp2_with (at_builtin; refine wpList_app _ rfl (.tmp 29) (.tmp 31) 66 66 rfl elKI (HOW.out.alloc (.cells #[.int .i64 (i : Int)] 3)) rfl (Src.of_new (cs := #[.int .i64 (i : Int)]) (t := 3) wr.heap.size (heap_alloc_new wr _) Tryz.underlying66 rfl (by simp [Value.oneCell'])) rfl (by simp only [maxLen]; omega) (by omega) ?_; intro v3 w3 hown3 hfr3 hnew3; obtain ⟨A3, c3, rfl, -, -⟩ := hown3.form; have hne := HOW.out.ne_ HCUR.out (by decide); have hcu := (HCUR.out.alloc (.cells #[.int .i64 (i : Int)] 3)).fr hfr3 hne; have k1 := hcu.frozen kx; have kc := hfr3.cell_some (((Fr.refl No wr).alloc (.cells #[.int .i64 (i : Int)] 3)).cell_some hcell (fun h => h)) hne)
          have hput := (HRJ.out.no ((Fr.refl No wr).alloc (.cells #[.int .i64 (i : Int)] 3))).put (L' := L ++ [(i : Int)]) HV1.out HRW.out hfr3 (by rw [List.length_append, is_append]; exact hown3) (hnew3.imp id (fun e => ⟨_, e, Nat.le_refl _⟩)) (by have := HFJ.out.size; simp; omega) rfl
          rw [HPU.out] at hput
          have HPT := Lib.hid hput
          have HF3 : Hid (Fr No w (w3.setCell ⟨w.heap.size, kx, none⟩ (.slice A3 (L.length + 1) c3))) := ((HFJ.out.alloc (.cells #[.int .i64 (i : Int)] 3)).trans' hfr3 (fun k hk hlt => by
            have h1 := HRJ.out.new kx _ k HV1.out hk
            omega)).trans' (fr_set _ w.heap.size kx _) (fun k hk hlt => by
            have : k = w.heap.size := hk
            omega)
          clear hput hown3 hfr3 hnew3
          go_wp2
          go_roundw
          case rel => exact ⟨j + 1, _, by omega, by go_num, HPT.out, HF3.out⟩
          case measure => simp [intOf]; omega
        · obtain rfl : j = (gat G i).length := by omega
          rw [usF_next] at hRj
          have HRJ := Lib.hid hRj
          have HFJ := Lib.hid hfj
          clear hRj hfj
          go_wp2
          go_roundw
          case rel => exact ⟨i + 1, us, by omega, by go_num, HRJ.out, HFJ.out⟩
          case measure => simp [intOf]; omega
    · obtain rfl : i = G.length := by omega
      rw [usF_all] at hR
      have HR := Lib.hid hR
      have HFR := Lib.hid hfr
      have hlen : (usersG G).length = G.length := rows_length _ _
      clear hR hfr
      go_wp2
      go_ret
      exact ⟨w.heap.size, vs, by rw [hlen]; rfl, HR.out, HFR.out⟩
end Go.Proofs.YtcpgamidimfflaaGreat
