/- Texts in order, each once: of no program. slices.DeleteFunc, Sort and Compact of strings, of rows of the call's own. -/
import Derived.Test.YtnphncemghfkbaaLib
import Derived.Sort.EncStr
import Derived.Sort.Grow
import Derived.Lib.SlicesCompact
import Derived.Lib.RowBridge
import Derived.Test.YtnphncemghfkbaaStrF
import Derived.Test.YtnphncemghfkbaaKit0
set_option linter.unusedSimpArgs false
set_option linter.unusedVariables false
namespace Go.My
open Go Go.RowKit Go.Sort Go.Lib Go.Proofs

/-- in order, each once -/
def Up (l : List (List UInt8)) : Prop := l.Pairwise (· < ·)
theorem str_irrefl (a : List UInt8) : ¬ a < a := List.lt_irrefl a
theorem str_trans {a b c : List UInt8} (h : a < b) (k : b < c) : a < c := List.lt_trans h k
theorem str_le_ne {a b : List UInt8} (h : a ≤ b) (hn : a ≠ b) : a < b := by
  rcases Decidable.em (a < b) with h1 | h1
  · exact h1
  · exact absurd (List.le_antisymm h (List.not_lt.1 h1)) hn
theorem str_le_lt {a b c : List UInt8} (h : a ≤ b) (k : b < c) : a < c := by
  by_cases e : a = b
  · subst e; exact k
  · exact str_trans (str_le_ne h e) k
theorem up_ext : ∀ {a b : List (List UInt8)}, Up a → Up b → (∀ s, s ∈ a ↔ s ∈ b) → a = b
  | [], [], _, _, _ => rfl
  | [], y :: b, _, _, h => by have := (h y).2 List.mem_cons_self; cases this
  | x :: a, [], _, _, h => by have := (h x).1 List.mem_cons_self; cases this
  | x :: a, y :: b, ha, hb, h => by
    obtain ⟨h1, h2⟩ := List.pairwise_cons.1 ha
    obtain ⟨k1, k2⟩ := List.pairwise_cons.1 hb
    have e : x = y := by
      rcases List.mem_cons.1 ((h x).1 List.mem_cons_self) with e | hx
      · exact e
      · rcases List.mem_cons.1 ((h y).2 List.mem_cons_self) with e | hy
        · exact e.symm
        · exact absurd (str_trans (h1 y hy) (k1 x hx)) (str_irrefl x)
    subst e
    congr 1
    refine up_ext h2 k2 fun s => ⟨fun hs => ?_, fun hs => ?_⟩
    · rcases List.mem_cons.1 ((h s).1 (List.mem_cons_of_mem _ hs)) with e | hx
      · subst e; exact absurd (h1 s hs) (str_irrefl s)
      · exact hx
    · rcases List.mem_cons.1 ((h s).2 (List.mem_cons_of_mem _ hs)) with e | hx
      · subst e; exact absurd (k1 s hs) (str_irrefl s)
      · exact hx
theorem compact_up (d : Array (List UInt8)) (hd : ∀ i j, i < j → j < d.size → d[i]! ≤ d[j]!) : ∀ m, m ≤ d.size → Up (compactUpTo d m) ∧ ∀ s, s ∈ compactUpTo d m ↔ ∃ j, j < m ∧ d[j]! = s
  | 0, _ => by
    refine ⟨List.Pairwise.nil, fun s => ?_⟩
    simp [compactUpTo]
  | m + 1, hm => by
    obtain ⟨h1, h2⟩ := compact_up d hd m (by omega)
    rw [compactUpTo_succ]
    cases hk : keeps d m with
    | false =>
      simp only [Bool.false_eq_true, if_false, List.append_nil]
      refine ⟨h1, fun s => ?_⟩
      rw [h2 s]
      unfold keeps at hk
      rw [decide_eq_false_iff_not] at hk
      have hm0 : m ≠ 0 := fun e => hk (.inl e)
      have he : d[m]! = d[m - 1]! := Decidable.byContradiction fun e => hk (.inr e)
      constructor
      · rintro ⟨j, hj, e⟩
        exact ⟨j, by omega, e⟩
      · rintro ⟨j, hj, e⟩
        by_cases hjm : j = m
        · subst hjm
          exact ⟨j - 1, by omega, by rw [← he]; exact e⟩
        · exact ⟨j, by omega, e⟩
    | true =>
      simp only [if_true]
      unfold keeps at hk
      rw [decide_eq_true_eq] at hk
      constructor
      · unfold Up
        rw [List.pairwise_append]
        refine ⟨h1, by simp, fun a ha b hb => ?_⟩
        rw [List.mem_singleton] at hb
        subst hb
        obtain ⟨j, hj, rfl⟩ := (h2 a).1 ha
        rcases hk with h0 | hne
        · omega
        · have hlt := str_le_ne (hd (m - 1) m (by omega) (by omega)) (fun e => hne e.symm)
          by_cases e : j = m - 1
          · subst e; exact hlt
          · exact str_le_lt (hd j (m - 1) (by omega) (by omega)) hlt
      · intro s
        rw [List.mem_append, List.mem_singleton, h2 s]
        constructor
        · rintro (⟨j, hj, e⟩ | e)
          · exact ⟨j, by omega, e⟩
          · exact ⟨m, by omega, e.symm⟩
        · rintro ⟨j, hj, e⟩
          by_cases hjm : j = m
          · subst hjm; exact .inr e.symm
          · exact .inl ⟨j, by omega, e⟩
/-- sorted, and each once -/
def upOf (l : List (List UInt8)) : List (List UInt8) := compact (l.mergeSort fun x y => decide (x ≤ y))
theorem upOf_spec (l : List (List UInt8)) : Up (upOf l) ∧ ∀ s, s ∈ upOf l ↔ s ∈ l := by
  have hp := List.pairwise_mergeSort (le := fun x y : List UInt8 => decide (x ≤ y)) (fun a b c h k => by
    simp only [decide_eq_true_eq] at h k ⊢
    exact List.le_trans h k) (fun a b => by
    rcases List.le_total a b with h | h
    · simp [h]
    · simp [h]) l
  have hm : ∀ s, s ∈ l.mergeSort (fun x y => decide (x ≤ y)) ↔ s ∈ l := fun s => List.mem_mergeSort
  unfold upOf
  generalize l.mergeSort (fun x y => decide (x ≤ y)) = t at hp hm ⊢
  have h := compact_up t.toArray (fun i j hij hj => by
    have hj' : j < t.length := by simpa using hj
    have h1 := List.pairwise_iff_getElem.1 hp i j (by omega) hj' hij
    rw [getElem!_pos t.toArray i (by simp; omega), getElem!_pos t.toArray j (by simpa using hj')]
    simpa using h1) t.length (by simp)
  unfold compact
  refine ⟨h.1, fun s => ?_⟩
  rw [h.2 s, ← hm s, List.mem_iff_getElem]
  constructor
  · rintro ⟨j, hj, e⟩
    refine ⟨j, hj, ?_⟩
    rw [getElem!_pos t.toArray j (by simpa using hj)] at e
    simpa using e
  · rintro ⟨j, hj, e⟩
    refine ⟨j, hj, ?_⟩
    rw [getElem!_pos t.toArray j (by simpa using hj)]
    simpa using e
/-- sorted, each once, and the same texts: one -/
theorem upOf_eq {l t : List (List UInt8)} (h : Up t) (hm : ∀ s, s ∈ t ↔ s ∈ l) : t = upOf l :=
  up_ext h (upOf_spec l).1 fun s => (hm s).trans ((upOf_spec l).2 s).symm
theorem upOf_length (l : List (List UInt8)) : (upOf l).length ≤ l.length := by
  have := compact_length_le (l.mergeSort fun x y => decide (x ≤ y))
  rw [List.length_mergeSort] at this
  exact this

/-! ### rows of texts -/
def ts (l : List (List UInt8)) : List Value := l.map encStr
theorem ts_length (l : List (List UInt8)) : (ts l).length = l.length := by simp [ts]
theorem ts_append (l r : List (List UInt8)) : ts (l ++ r) = ts l ++ ts r := by simp [ts]
theorem ts_one (l : List (List UInt8)) : ∀ u ∈ ts l, u.oneCell' = true := by
  intro u hu
  simp only [ts, List.mem_map] at hu
  obtain ⟨b, _, rfl⟩ := hu
  rfl
theorem ts_get (l : List (List UInt8)) (k : Nat) (h : k < l.length) : (ts l)[k]? = some (encStr l[k]) := by simp [ts, h]
/-- the cells of a block where a row has been laid at its head -/
theorem take_putS (F : Array (List UInt8)) (cur : Array Value) (k : Nat) (hk : k ≤ F.size) (hl : F.size ≤ cur.size) : (putCells encStr 0 F cur).toList.take k = ts (F.toList.take k) := by
  apply List.ext_getElem?
  intro t
  rw [List.getElem?_take]
  unfold ts
  rw [List.getElem?_map, List.getElem?_take]
  by_cases h : t < k
  · rw [if_pos h, if_pos h]
    unfold putCells
    simp only [Array.getElem?_toList, Array.getElem?_mapIdx]
    rw [Array.getElem?_eq_getElem (by omega), Array.getElem?_eq_getElem (by omega)]
    simp only [Option.map_some]
    rw [if_pos ⟨by omega, by omega⟩, getElem!_pos F (t - 0) (by omega)]
    simp
  · rw [if_neg h, if_neg h]
    rfl
theorem own_holds {w : World} {t : TypeId} {g n cap : Nat} {L : List (List UInt8)} (h : Own w t 1 (.slice (some ⟨g, 0, none⟩) n cap) n (ts L)) : Holds encStr w g 0 L.toArray ∧ g < w.heap.size ∧ L.length = n ∧ n ≤ cap := by
  have hlen : L.length = n := by have := h.1; rw [ts_length] at this; omega
  rcases h.2 with ⟨h0, _⟩ | ⟨g', cap', cur, hv, hg, hle, hm, hs, ht⟩
  · cases h0
  · injection hv with hA hn hc
    injection hA with hA
    injection hA with hA
    subst hA hc
    refine ⟨fun j hj => ?_, (Array.getElem?_eq_some_iff.1 hg).1, hlen, hle⟩
    have hj' : j < L.length := by simpa using hj
    rw [Nat.zero_add, cell_of_row w g j cur _ _ hg, getElem!_pos L.toArray j hj]
    constructor
    · have : (cur.toList.take (n * 1))[j]? = (ts L)[j]? := by rw [ht]
      rw [List.getElem?_take, if_pos (by omega), Array.getElem?_toList, ts_get L j hj'] at this
      simpa using this
    · exact Blk.frozen (t := t) (cs := cur) hg j
theorem own_put {w : World} {t : TypeId} {g n cap : Nat} {L : List (List UInt8)} (h : Own w t 1 (.slice (some ⟨g, 0, none⟩) n cap) n (ts L)) (q : Nat) (os : Array Obj) (F : Array (List UInt8)) (hF : F.size = n) (k : Nat) (hk : k ≤ n) :
    Own (grow (putRow encStr (Sort.ahead w q) g 0 F) os) t 1 (.slice (some ⟨g, 0, none⟩) k cap) k (ts (F.toList.take k)) ∧ Fr (At1 g) w (grow (putRow encStr (Sort.ahead w q) g 0 F) os) := by
  rcases h.2 with ⟨h0, _⟩ | ⟨g', cap', cur, hv, hg, hle, hm, hs, ht⟩
  · cases h0
  · injection hv with hA hn hc
    injection hA with hA
    injection hA with hA
    subst hA hc
    have hlt := (Array.getElem?_eq_some_iff.1 hg).1
    have hheap : (grow (putRow encStr (Sort.ahead w q) g 0 F) os).heap[g]? = some (.cells (putCells encStr 0 F cur) t (0, 0)) := by
      unfold putRow
      rw [heap_grow_old _ _ (by show g < (w.heap.modify g _).size; simpa using hlt)]
      show (w.heap.modify g _)[g]? = _
      rw [Array.getElem?_modify, if_pos rfl, hg]
      rfl
    constructor
    · refine ⟨by rw [ts_length, List.length_take, Array.length_toList]; omega, .inr ⟨g, cap, _, rfl, hheap, by omega, hm, ?_, ?_⟩⟩
      · unfold putCells
        simpa using hs
      · rw [Nat.mul_one]
        exact take_putS F cur k (by omega) (by omega)
    · refine ⟨rfl, rfl, rfl, ?_, fun i hi hn => ?_⟩
      · show w.heap.size ≤ ((w.heap.modify g _) ++ os).size
        simp
      · unfold putRow
        rw [heap_grow_old _ _ (by show i < (w.heap.modify g _).size; simpa using hi)]
        show (w.heap.modify g _)[i]? = _
        rw [Array.getElem?_modify, if_neg (fun e : g = i => hn e.symm)]
end Go.My
namespace Go.Proofs.Ytnphncemghfkbaa
open Go.RowKit Go.My Go.Maps Go.Sort Go.Lib
set_option linter.unusedSimpArgs false
set_option linter.unusedVariables false

theorem oneS : OneCell encStr := fun _ => rfl
theorem eqS (T : TypeId) : EqlAt Try.prog T encStr (fun x y => decide (x = y)) := by
  have h := EqlAt.string Try.prog T
  refine ⟨fun x y w => ?_, fun op a b x y w => h.2 op a b ⟨x.toArray⟩ ⟨y.toArray⟩ w⟩
  have e := h.1 ⟨x.toArray⟩ ⟨y.toArray⟩ w
  have e1 : ((⟨x.toArray⟩ : ByteArray).toList == (⟨y.toArray⟩ : ByteArray).toList) = decide (x = y) := by
    rw [ByteArray.toList_eq, ByteArray.toList_eq]
    show (x == y) = _
    by_cases hxy : x = y
    · subst hxy; simp
    · rw [decide_eq_false hxy]; exact beq_eq_false_iff_ne.2 hxy
  simp only [e1] at e
  exact e
theorem neS (T : TypeId) : NeqAt Try.prog T encStr (fun x y => decide (x = y)) := by
  have h := NeqAt.string Try.prog T
  refine ⟨fun x y w => ?_, fun op a b x y w => h.2 op a b ⟨x.toArray⟩ ⟨y.toArray⟩ w⟩
  have e := h.1 ⟨x.toArray⟩ ⟨y.toArray⟩ w
  have e1 : ((⟨x.toArray⟩ : ByteArray).toList == (⟨y.toArray⟩ : ByteArray).toList) = decide (x = y) := by
    rw [ByteArray.toList_eq, ByteArray.toList_eq]
    show (x == y) = _
    by_cases hxy : x = y
    · subst hxy; simp
    · rw [decide_eq_false hxy]; exact beq_eq_false_iff_ne.2 hxy
  simp only [e1] at e
  exact e
/-- handed back: the row at g, of k texts -/
def RetS (w : World) (g cap : Nat) (e : Ending) (L : List (List UInt8)) (w' : World) : Prop :=
  e = .returned (.slice (some ⟨g, 0, none⟩) L.length cap) ∧ Own w' 9 1 (.slice (some ⟨g, 0, none⟩) L.length cap) L.length (ts L) ∧ Fr (At1 g) w w'

theorem delS_any (f : FuncId) (p : List UInt8 → Bool) (L : List (List UInt8)) (g cap : Nat) (w : World) (h : Own w 9 1 (.slice (some ⟨g, 0, none⟩) L.length cap) L.length (ts L)) (hl : L.length ≤ 1000000)
    (eg : ∀ args w, (callFunc f args).run Try.prog w = .ok (.enter f args) w) (hf : ∀ (W : World) (x : List UInt8), FnGives Try.prog f #[] #[encStr x] (.bool (p x)) W) :
    Calls Try.prog 44 #[.slice (some ⟨g, 0, none⟩) L.length cap, .func (.func f) #[] #[]] w fun e w' => RetS w g cap e (L.filter fun x => !p x) w' := by
  obtain ⟨hH, hlt, hlen, hcap⟩ := own_holds h
  have hcon := AnyE.slices_DeleteFunc Try.delS encStr oneS p f #[] eg [] Try.zeroValue9 g 0 cap L.toArray w (fun W x _ => hf W x) (fun n os dk x _ => hf _ x) hH (by simp; omega) (by simpa using hcap)
  have e0 : L.toArray.size = L.length := by simp
  rw [e0] at hcon
  refine Calls.mono hcon ?_
  rintro e w' ⟨rfl, q, rfl⟩
  have hle : (L.filter fun x => !p x).length ≤ L.length := List.length_filter_le _ _
  have h1 := own_put h q #[] ((L.filter fun x => !p x) ++ List.replicate (L.length - (L.filter fun x => !p x).length) []).toArray (by simp; omega) (L.filter fun x => !p x).length hle
  rw [grow_empty] at h1
  have e1 : (((L.filter fun x => !p x) ++ List.replicate (L.length - (L.filter fun x => !p x).length) []).toArray.toList.take (L.filter fun x => !p x).length) = L.filter fun x => !p x := by simp
  rw [e1] at h1
  exact ⟨rfl, h1⟩
theorem sortS_any (L : List (List UInt8)) (g cap : Nat) (w : World) (h : Own w 9 1 (.slice (some ⟨g, 0, none⟩) L.length cap) L.length (ts L)) (hl : L.length ≤ 1000000) :
    Calls Try.prog 46 #[.slice (some ⟨g, 0, none⟩) L.length cap] w fun e w' => e = .returned (.tuple #[]) ∧ Own w' 9 1 (.slice (some ⟨g, 0, none⟩) L.length cap) L.length (ts (L.mergeSort fun x y => decide (x ≤ y))) ∧ Fr (At1 g) w w' := by
  obtain ⟨hH, hlt, hlen, hcap⟩ := own_holds h
  refine Calls.mono (AnyM.slices_Sort_string Try.sortS g 0 cap L w hH hlt (by omega)) ?_
  rintro e w' ⟨rfl, n, os, rfl⟩
  have h1 := own_put h n os (L.mergeSort fun x y => decide (x ≤ y)).toArray (by simp) L.length (Nat.le_refl _)
  have e1 : ((L.mergeSort fun x y => decide (x ≤ y)).toArray.toList.take L.length) = L.mergeSort fun x y => decide (x ≤ y) := by
    rw [List.take_of_length_le (by simp)]
  rw [e1] at h1
  exact ⟨rfl, h1⟩
theorem compS_any (L : List (List UInt8)) (g cap : Nat) (w : World) (h : Own w 9 1 (.slice (some ⟨g, 0, none⟩) L.length cap) L.length (ts L)) (hl : L.length ≤ 1000000) :
    Calls Try.prog 47 #[.slice (some ⟨g, 0, none⟩) L.length cap] w fun e w' => RetS w g cap e (compact L) w' := by
  obtain ⟨hH, hlt, hlen, hcap⟩ := own_holds h
  have hcon := AnyE.slices_Compact Try.compS encStr oneS (eqS _) (neS _) [] Try.zeroValue9 g 0 cap L.toArray w hH (by simp; omega) (by simpa using hcap)
  have e0 : L.toArray.size = L.length := by simp
  rw [e0] at hcon
  have hce : compactUpTo L.toArray L.length = compact L := rfl
  rw [hce] at hcon
  refine Calls.mono hcon ?_
  rintro e w' ⟨rfl, q, rfl⟩
  have hle : (compact L).length ≤ L.length := compact_length_le L
  have h1 := own_put h q #[] (compact L ++ List.replicate (L.length - (compact L).length) []).toArray (by simp; omega) (compact L).length hle
  rw [grow_empty] at h1
  have e1 : ((compact L ++ List.replicate (L.length - (compact L).length) []).toArray.toList.take (compact L).length) = compact L := by simp
  rw [e1] at h1
  exact ⟨rfl, h1⟩
end Go.Proofs.Ytnphncemghfkbaa
