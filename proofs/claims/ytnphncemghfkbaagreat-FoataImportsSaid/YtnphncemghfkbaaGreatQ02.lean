/- Texts in order, each once: of no program. slices.DeleteFunc, Sort and Compact of strings, of rows of the call's own. What package coins answers, as functions: of no program. Maps from numbers to values of any kind (functions, structs of them) that the call makes: of no program. Contracts of package coins: sums (what charts need of it). A chart as a list of accounts in the order of their names: of no program. Contracts of package chart: names. Legs, as they come in and lie in memory. A region that draws its order, by an invariant: of no program. A region that draws its order, whose operations and callees keep to a class of worlds: one walk of the text's order serves every order. Of no program. A region taken out of a function's code, so that a lemma can speak of it alone. Of no program. -/
import Derived.Test.YtnphncemghfkbaaGreatQ01
import Derived.Sort.EncStr
import Derived.Sort.Grow
import Derived.Lib.SlicesCompact
import Derived.Lib.RowBridge
import Derived.Test.YtnphncemghfkbaaGreatStrF
import Derived.IntWalk
import Derived.RowKit
import Derived.Maps.Ext
import Derived.Maps.OwnSet
import Derived.Maps.OwnOps
import Derived.Test.YtnphncemghfkbaaGreatChecked
import Derived.RegionCalls
import Derived.Shelf.Spec.BitsCarry
import Derived.Sort.KeysCollected
import Derived.Laws.RangeAny
import Derived.Deep.DeepCutAuto
import Derived.RegionTactic
import Derived.Deep.QuietTactic
import Derived.BigQuiet
set_option linter.unusedSimpArgs false
set_option linter.unusedVariables false
namespace Go.My
open Go Go.RowKit Go.Sort Go.Lib Go.Proofs

/-- in order, each once -/
def Up (l : List (List UInt8)) : Prop := l.Pairwise (· < ·)
theorem str_irrefl (a : List UInt8) : ¬ a < a := List.lt_irrefl a
theorem str_trans {a b c : List UInt8} (h : a < b) (k : b < c) : a < c := List.lt_trans h k
theorem str_le_ne {a b : List UInt8} (h : a ≤ b) (hn : a ≠ b) : a < b := by
  rcases Decidable.em (a < b) with h1 | h1
  · exact h1
  · exact absurd (List.le_antisymm h (List.not_lt.1 h1)) hn
theorem str_le_lt {a b c : List UInt8} (h : a ≤ b) (k : b < c) : a < c := by
  by_cases e : a = b
  · subst e; exact k
  · exact str_trans (str_le_ne h e) k
theorem up_ext : ∀ {a b : List (List UInt8)}, Up a → Up b → (∀ s, s ∈ a ↔ s ∈ b) → a = b
  | [], [], _, _, _ => rfl
  | [], y :: b, _, _, h => by have := (h y).2 List.mem_cons_self; cases this
  | x :: a, [], _, _, h => by have := (h x).1 List.mem_cons_self; cases this
  | x :: a, y :: b, ha, hb, h => by
    obtain ⟨h1, h2⟩ := List.pairwise_cons.1 ha
    obtain ⟨k1, k2⟩ := List.pairwise_cons.1 hb
    have e : x = y := by
      rcases List.mem_cons.1 ((h x).1 List.mem_cons_self) with e | hx
      · exact e
      · rcases List.mem_cons.1 ((h y).2 List.mem_cons_self) with e | hy
        · exact e.symm
        · exact absurd (str_trans (h1 y hy) (k1 x hx)) (str_irrefl x)
    subst e
    congr 1
    refine up_ext h2 k2 fun s => ⟨fun hs => ?_, fun hs => ?_⟩
    · rcases List.mem_cons.1 ((h s).1 (List.mem_cons_of_mem _ hs)) with e | hx
      · subst e; exact absurd (h1 s hs) (str_irrefl s)
      · exact hx
    · rcases List.mem_cons.1 ((h s).2 (List.mem_cons_of_mem _ hs)) with e | hx
      · subst e; exact absurd (k1 s hs) (str_irrefl s)
      · exact hx
theorem compact_up (d : Array (List UInt8)) (hd : ∀ i j, i < j → j < d.size → d[i]! ≤ d[j]!) : ∀ m, m ≤ d.size → Up (compactUpTo d m) ∧ ∀ s, s ∈ compactUpTo d m ↔ ∃ j, j < m ∧ d[j]! = s
  | 0, _ => by
    refine ⟨List.Pairwise.nil, fun s => ?_⟩
    simp [compactUpTo]
  | m + 1, hm => by
    obtain ⟨h1, h2⟩ := compact_up d hd m (by omega)
    rw [compactUpTo_succ]
    cases hk : keeps d m with
    | false =>
      simp only [Bool.false_eq_true, if_false, List.append_nil]
      refine ⟨h1, fun s => ?_⟩
      rw [h2 s]
      unfold keeps at hk
      rw [decide_eq_false_iff_not] at hk
      have hm0 : m ≠ 0 := fun e => hk (.inl e)
      have he : d[m]! = d[m - 1]! := Decidable.byContradiction fun e => hk (.inr e)
      constructor
      · rintro ⟨j, hj, e⟩
        exact ⟨j, by omega, e⟩
      · rintro ⟨j, hj, e⟩
        by_cases hjm : j = m
        · subst hjm
          exact ⟨j - 1, by omega, by rw [← he]; exact e⟩
        · exact ⟨j, by omega, e⟩
    | true =>
      simp only [if_true]
      unfold keeps at hk
      rw [decide_eq_true_eq] at hk
      constructor
      · unfold Up
        rw [List.pairwise_append]
        refine ⟨h1, by simp, fun a ha b hb => ?_⟩
        rw [List.mem_singleton] at hb
        subst hb
        obtain ⟨j, hj, rfl⟩ := (h2 a).1 ha
        rcases hk with h0 | hne
        · omega
        · have hlt := str_le_ne (hd (m - 1) m (by omega) (by omega)) (fun e => hne e.symm)
          by_cases e : j = m - 1
          · subst e; exact hlt
          · exact str_le_lt (hd j (m - 1) (by omega) (by omega)) hlt
      · intro s
        rw [List.mem_append, List.mem_singleton, h2 s]
        constructor
        · rintro (⟨j, hj, e⟩ | e)
          · exact ⟨j, by omega, e⟩
          · exact ⟨m, by omega, e.symm⟩
        · rintro ⟨j, hj, e⟩
          by_cases hjm : j = m
          · subst hjm; exact .inr e.symm
          · exact .inl ⟨j, by omega, e⟩
/-- sorted, and each once -/
def upOf (l : List (List UInt8)) : List (List UInt8) := compact (l.mergeSort fun x y => decide (x ≤ y))
theorem upOf_spec (l : List (List UInt8)) : Up (upOf l) ∧ ∀ s, s ∈ upOf l ↔ s ∈ l := by
  have hp := List.pairwise_mergeSort (le := fun x y : List UInt8 => decide (x ≤ y)) (fun a b c h k => by
    simp only [decide_eq_true_eq] at h k ⊢
    exact List.le_trans h k) (fun a b => by
    rcases List.le_total a b with h | h
    · simp [h]
    · simp [h]) l
  have hm : ∀ s, s ∈ l.mergeSort (fun x y => decide (x ≤ y)) ↔ s ∈ l := fun s => List.mem_mergeSort
  unfold upOf
  generalize l.mergeSort (fun x y => decide (x ≤ y)) = t at hp hm ⊢
  have h := compact_up t.toArray (fun i j hij hj => by
    have hj' : j < t.length := by simpa using hj
    have h1 := List.pairwise_iff_getElem.1 hp i j (by omega) hj' hij
    rw [getElem!_pos t.toArray i (by simp; omega), getElem!_pos t.toArray j (by simpa using hj')]
    simpa using h1) t.length (by simp)
  unfold compact
  refine ⟨h.1, fun s => ?_⟩
  rw [h.2 s, ← hm s, List.mem_iff_getElem]
  constructor
  · rintro ⟨j, hj, e⟩
    refine ⟨j, hj, ?_⟩
    rw [getElem!_pos t.toArray j (by simpa using hj)] at e
    simpa using e
  · rintro ⟨j, hj, e⟩
    refine ⟨j, hj, ?_⟩
    rw [getElem!_pos t.toArray j (by simpa using hj)]
    simpa using e
/-- sorted, each once, and the same texts: one -/
theorem upOf_eq {l t : List (List UInt8)} (h : Up t) (hm : ∀ s, s ∈ t ↔ s ∈ l) : t = upOf l :=
  up_ext h (upOf_spec l).1 fun s => (hm s).trans ((upOf_spec l).2 s).symm
theorem upOf_length (l : List (List UInt8)) : (upOf l).length ≤ l.length := by
  have := compact_length_le (l.mergeSort fun x y => decide (x ≤ y))
  rw [List.length_mergeSort] at this
  exact this

/-! ### rows of texts -/
def ts (l : List (List UInt8)) : List Value := l.map encStr
theorem ts_length (l : List (List UInt8)) : (ts l).length = l.length := by simp [ts]
theorem ts_append (l r : List (List UInt8)) : ts (l ++ r) = ts l ++ ts r := by simp [ts]
theorem ts_one (l : List (List UInt8)) : ∀ u ∈ ts l, u.oneCell' = true := by
  intro u hu
  simp only [ts, List.mem_map] at hu
  obtain ⟨b, _, rfl⟩ := hu
  rfl
theorem ts_get (l : List (List UInt8)) (k : Nat) (h : k < l.length) : (ts l)[k]? = some (encStr l[k]) := by simp [ts, h]
/-- the cells of a block where a row has been laid at its head -/
theorem take_putS (F : Array (List UInt8)) (cur : Array Value) (k : Nat) (hk : k ≤ F.size) (hl : F.size ≤ cur.size) : (putCells encStr 0 F cur).toList.take k = ts (F.toList.take k) := by
  apply List.ext_getElem?
  intro t
  rw [List.getElem?_take]
  unfold ts
  rw [List.getElem?_map, List.getElem?_take]
  by_cases h : t < k
  · rw [if_pos h, if_pos h]
    unfold putCells
    simp only [Array.getElem?_toList, Array.getElem?_mapIdx]
    rw [Array.getElem?_eq_getElem (by omega), Array.getElem?_eq_getElem (by omega)]
    simp only [Option.map_some]
    rw [if_pos ⟨by omega, by omega⟩, getElem!_pos F (t - 0) (by omega)]
    simp
  · rw [if_neg h, if_neg h]
    rfl
theorem own_holds {w : World} {t : TypeId} {g n cap : Nat} {L : List (List UInt8)} (h : Own w t 1 (.slice (some ⟨g, 0, none⟩) n cap) n (ts L)) : Holds encStr w g 0 L.toArray ∧ g < w.heap.size ∧ L.length = n ∧ n ≤ cap := by
  have hlen : L.length = n := by have := h.1; rw [ts_length] at this; omega
  rcases h.2 with ⟨h0, _⟩ | ⟨g', cap', cur, hv, hg, hle, hm, hs, ht⟩
  · cases h0
  · injection hv with hA hn hc
    injection hA with hA
    injection hA with hA
    subst hA hc
    refine ⟨fun j hj => ?_, (Array.getElem?_eq_some_iff.1 hg).1, hlen, hle⟩
    have hj' : j < L.length := by simpa using hj
    rw [Nat.zero_add, cell_of_row w g j cur _ _ hg, getElem!_pos L.toArray j hj]
    constructor
    · have : (cur.toList.take (n * 1))[j]? = (ts L)[j]? := by rw [ht]
      rw [List.getElem?_take, if_pos (by omega), Array.getElem?_toList, ts_get L j hj'] at this
      simpa using this
    · exact Blk.frozen (t := t) (cs := cur) hg j
theorem own_put {w : World} {t : TypeId} {g n cap : Nat} {L : List (List UInt8)} (h : Own w t 1 (.slice (some ⟨g, 0, none⟩) n cap) n (ts L)) (q : Nat) (os : Array Obj) (F : Array (List UInt8)) (hF : F.size = n) (k : Nat) (hk : k ≤ n) :
    Own (grow (putRow encStr (Sort.ahead w q) g 0 F) os) t 1 (.slice (some ⟨g, 0, none⟩) k cap) k (ts (F.toList.take k)) ∧ Fr (At1 g) w (grow (putRow encStr (Sort.ahead w q) g 0 F) os) := by
  rcases h.2 with ⟨h0, _⟩ | ⟨g', cap', cur, hv, hg, hle, hm, hs, ht⟩
  · cases h0
  · injection hv with hA hn hc
    injection hA with hA
    injection hA with hA
    subst hA hc
    have hlt := (Array.getElem?_eq_some_iff.1 hg).1
    have hheap : (grow (putRow encStr (Sort.ahead w q) g 0 F) os).heap[g]? = some (.cells (putCells encStr 0 F cur) t (0, 0)) := by
      unfold putRow
      rw [heap_grow_old _ _ (by show g < (w.heap.modify g _).size; simpa using hlt)]
      show (w.heap.modify g _)[g]? = _
      rw [Array.getElem?_modify, if_pos rfl, hg]
      rfl
    constructor
    · refine ⟨by rw [ts_length, List.length_take, Array.length_toList]; omega, .inr ⟨g, cap, _, rfl, hheap, by omega, hm, ?_, ?_⟩⟩
      · unfold putCells
        simpa using hs
      · rw [Nat.mul_one]
        exact take_putS F cur k (by omega) (by omega)
    · refine ⟨rfl, rfl, rfl, ?_, fun i hi hn => ?_⟩
      · show w.heap.size ≤ ((w.heap.modify g _) ++ os).size
        simp
      · unfold putRow
        rw [heap_grow_old _ _ (by show i < (w.heap.modify g _).size; simpa using hi)]
        show (w.heap.modify g _)[i]? = _
        rw [Array.getElem?_modify, if_neg (fun e : g = i => hn e.symm)]
end Go.My
namespace Go.Proofs.YtnphncemghfkbaaGreat
open Go.RowKit Go.My Go.Maps Go.Sort Go.Lib
set_option linter.unusedSimpArgs false
set_option linter.unusedVariables false

theorem oneS : OneCell encStr := fun _ => rfl
theorem eqS (T : TypeId) : EqlAt Tryz.prog T encStr (fun x y => decide (x = y)) := by
  have h := EqlAt.string Tryz.prog T
  refine ⟨fun x y w => ?_, fun op a b x y w => h.2 op a b ⟨x.toArray⟩ ⟨y.toArray⟩ w⟩
  have e := h.1 ⟨x.toArray⟩ ⟨y.toArray⟩ w
  have e1 : ((⟨x.toArray⟩ : ByteArray).toList == (⟨y.toArray⟩ : ByteArray).toList) = decide (x = y) := by
    rw [ByteArray.toList_eq, ByteArray.toList_eq]
    show (x == y) = _
    by_cases hxy : x = y
    · subst hxy; simp
    · rw [decide_eq_false hxy]; exact beq_eq_false_iff_ne.2 hxy
  simp only [e1] at e
  exact e
theorem neS (T : TypeId) : NeqAt Tryz.prog T encStr (fun x y => decide (x = y)) := by
  have h := NeqAt.string Tryz.prog T
  refine ⟨fun x y w => ?_, fun op a b x y w => h.2 op a b ⟨x.toArray⟩ ⟨y.toArray⟩ w⟩
  have e := h.1 ⟨x.toArray⟩ ⟨y.toArray⟩ w
  have e1 : ((⟨x.toArray⟩ : ByteArray).toList == (⟨y.toArray⟩ : ByteArray).toList) = decide (x = y) := by
    rw [ByteArray.toList_eq, ByteArray.toList_eq]
    show (x == y) = _
    by_cases hxy : x = y
    · subst hxy; simp
    · rw [decide_eq_false hxy]; exact beq_eq_false_iff_ne.2 hxy
  simp only [e1] at e
  exact e
/-- handed back: the row at g, of k texts -/
def RetS (w : World) (g cap : Nat) (e : Ending) (L : List (List UInt8)) (w' : World) : Prop :=
  e = .returned (.slice (some ⟨g, 0, none⟩) L.length cap) ∧ Own w' 9 1 (.slice (some ⟨g, 0, none⟩) L.length cap) L.length (ts L) ∧ Fr (At1 g) w w'

theorem delS_any (f : FuncId) (p : List UInt8 → Bool) (L : List (List UInt8)) (g cap : Nat) (w : World) (h : Own w 9 1 (.slice (some ⟨g, 0, none⟩) L.length cap) L.length (ts L)) (hl : L.length ≤ 1000000)
    (eg : ∀ args w, (callFunc f args).run Tryz.prog w = .ok (.enter f args) w) (hf : ∀ (W : World) (x : List UInt8), FnGives Tryz.prog f #[] #[encStr x] (.bool (p x)) W) :
    Calls Tryz.prog 112 #[.slice (some ⟨g, 0, none⟩) L.length cap, .func (.func f) #[] #[]] w fun e w' => RetS w g cap e (L.filter fun x => !p x) w' := by
  obtain ⟨hH, hlt, hlen, hcap⟩ := own_holds h
  have hcon := AnyE.slices_DeleteFunc Tryz.delS encStr oneS p f #[] eg [] Tryz.zeroValue9 g 0 cap L.toArray w (fun W x _ => hf W x) (fun n os dk x _ => hf _ x) hH (by simp; omega) (by simpa using hcap)
  have e0 : L.toArray.size = L.length := by simp
  rw [e0] at hcon
  refine Calls.mono hcon ?_
  rintro e w' ⟨rfl, q, rfl⟩
  have hle : (L.filter fun x => !p x).length ≤ L.length := List.length_filter_le _ _
  have h1 := own_put h q #[] ((L.filter fun x => !p x) ++ List.replicate (L.length - (L.filter fun x => !p x).length) []).toArray (by simp; omega) (L.filter fun x => !p x).length hle
  rw [grow_empty] at h1
  have e1 : (((L.filter fun x => !p x) ++ List.replicate (L.length - (L.filter fun x => !p x).length) []).toArray.toList.take (L.filter fun x => !p x).length) = L.filter fun x => !p x := by simp
  rw [e1] at h1
  exact ⟨rfl, h1⟩
theorem sortS_any (L : List (List UInt8)) (g cap : Nat) (w : World) (h : Own w 9 1 (.slice (some ⟨g, 0, none⟩) L.length cap) L.length (ts L)) (hl : L.length ≤ 1000000) :
    Calls Tryz.prog 114 #[.slice (some ⟨g, 0, none⟩) L.length cap] w fun e w' => e = .returned (.tuple #[]) ∧ Own w' 9 1 (.slice (some ⟨g, 0, none⟩) L.length cap) L.length (ts (L.mergeSort fun x y => decide (x ≤ y))) ∧ Fr (At1 g) w w' := by
  obtain ⟨hH, hlt, hlen, hcap⟩ := own_holds h
  refine Calls.mono (AnyM.slices_Sort_string Tryz.sortS g 0 cap L w hH hlt (by omega)) ?_
  rintro e w' ⟨rfl, n, os, rfl⟩
  have h1 := own_put h n os (L.mergeSort fun x y => decide (x ≤ y)).toArray (by simp) L.length (Nat.le_refl _)
  have e1 : ((L.mergeSort fun x y => decide (x ≤ y)).toArray.toList.take L.length) = L.mergeSort fun x y => decide (x ≤ y) := by
    rw [List.take_of_length_le (by simp)]
  rw [e1] at h1
  exact ⟨rfl, h1⟩
theorem compS_any (L : List (List UInt8)) (g cap : Nat) (w : World) (h : Own w 9 1 (.slice (some ⟨g, 0, none⟩) L.length cap) L.length (ts L)) (hl : L.length ≤ 1000000) :
    Calls Tryz.prog 115 #[.slice (some ⟨g, 0, none⟩) L.length cap] w fun e w' => RetS w g cap e (compact L) w' := by
  obtain ⟨hH, hlt, hlen, hcap⟩ := own_holds h
  have hcon := AnyE.slices_Compact Tryz.compS encStr oneS (eqS _) (neS _) [] Tryz.zeroValue9 g 0 cap L.toArray w hH (by simp; omega) (by simpa using hcap)
  have e0 : L.toArray.size = L.length := by simp
  rw [e0] at hcon
  have hce : compactUpTo L.toArray L.length = compact L := rfl
  rw [hce] at hcon
  refine Calls.mono hcon ?_
  rintro e w' ⟨rfl, q, rfl⟩
  have hle : (compact L).length ≤ L.length := compact_length_le L
  have h1 := own_put h q #[] (compact L ++ List.replicate (L.length - (compact L).length) []).toArray (by simp; omega) (compact L).length hle
  rw [grow_empty] at h1
  have e1 : ((compact L ++ List.replicate (L.length - (compact L).length) []).toArray.toList.take (compact L).length) = compact L := by simp
  rw [e1] at h1
  exact ⟨rfl, h1⟩
end Go.Proofs.YtnphncemghfkbaaGreat

namespace Go.My
open Go Go.RowKit
set_option linter.unusedSimpArgs false
set_option linter.unusedVariables false

/-- it is a sum -/
def In64 (x : Int) : Prop := -9223372036854775808 ≤ x ∧ x ≤ 9223372036854775807
instance (x : Int) : Decidable (In64 x) := by unfold In64; infer_instance
def sumV (x : Int) : Int := if In64 x then x else 0
def sumN (x : Int) : Nat := if In64 x then 0 else 2
theorem sumV_in {x : Int} (h : In64 x) : sumV x = x := if_pos h
theorem sumN_in {x : Int} (h : In64 x) : sumN x = 0 := if_pos h
theorem sumV_out {x : Int} (h : ¬ In64 x) : sumV x = 0 := if_neg h
theorem sumN_out {x : Int} (h : ¬ In64 x) : sumN x = 2 := if_neg h
theorem wrap64_eq (x : Int) : wrap64 x = (x + 9223372036854775808) % 18446744073709551616 - 9223372036854775808 := by unfold wrap64; rfl

/-- all together -/
def total (l : List Int) : Int := l.foldr (· + ·) 0
theorem total_nil : total [] = 0 := rfl
theorem total_cons (x : Int) (l : List Int) : total (x :: l) = x + total l := rfl
theorem total_append (l r : List Int) : total (l ++ r) = total l + total r := by
  induction l with
  | nil => simp [total_nil]
  | cons x l ih => rw [List.cons_append, total_cons, total_cons, ih]; omega
theorem total_bound (l : List Int) (h : ∀ x ∈ l, In64 x) : -9223372036854775808 * l.length ≤ total l ∧ total l ≤ 9223372036854775808 * l.length := by
  induction l with
  | nil => simp [total_nil]
  | cons x l ih =>
    have h1 := h x List.mem_cons_self
    have h2 := ih fun y hy => h y (List.mem_cons_of_mem _ hy)
    rw [total_cons]
    unfold In64 at h1
    simp only [List.length_cons, Int.natCast_add]
    omega
theorem total_replicate (n : Nat) (a : Int) : total (List.replicate n a) = a * n := by
  induction n with
  | zero => simp [total_nil]
  | succ n ih =>
    rw [List.replicate_succ, total_cons, ih, Int.natCast_add, Int.mul_add]
    omega

/-- in parts -/
def shareF (a : Int) (parts : Nat) : List Int := (List.range parts).map fun i : Nat => a / (parts : Int) + if (i : Int) < a % (parts : Int) then 1 else 0
theorem shareF_length (a : Int) (parts : Nat) : (shareF a parts).length = parts := by simp [shareF]
/-- the nearest -/
def betweenF (a lo hi : Int) : Int := max lo (min a hi)
end Go.My

namespace Go.My
open Go Go.RowKit Go.Maps
set_option linter.unusedSimpArgs false
set_option linter.unusedVariables false

def heldR (v : Value) : Option (DataW Value × List MemPlace) := some (.held v, [])
theorem isKey_int (k : Int) : WideAt.IsKeyLit (.int .i64 k) := by unfold WideAt.IsKeyLit; exact True.intro
/-- block m is such a map: what it holds, by key -/
def Tab (P : Program) (kt : TypeId) (w : World) (m n : Nat) (f : Int → Option Value) : Prop :=
  ∃ D : DataW Value, w.ownsMap P kt heldR m n D ∧ Tidy D ∧ (∀ k, In64 k → Maps.has D (.int .i64 k) = (f k).isSome) ∧ ∀ k, In64 k → ∀ z, D.atKey (.int .i64 k) z = match f k with | some v => .held v | none => z
section
variable {P : Program} {kt : TypeId} {w w' : World} {m n : Nat} {f : Int → Option Value}
theorem Tab.lt (h : Tab P kt w m n f) : m < w.heap.size := by obtain ⟨D, h, _⟩ := h; exact h.lt
theorem Tab.fr {F : Nat → Prop} (h : Tab P kt w m n f) (hf : Fr F w w') (hn : ¬ F m) : Tab P kt w' m n f := by
  obtain ⟨D, ⟨es, clock, hb, r⟩, r2⟩ := h
  exact ⟨D, ⟨es, clock, (hf.block m (Array.getElem?_eq_some_iff.1 hb).1 hn).trans hb, r⟩, r2⟩
theorem Tab.made (w : World) : Tab P kt (w.alloc (.map #[] 0)) w.heap.size 0 (fun _ => none) :=
  ⟨.map [], World.ownsMap_made _ _ _ _, tidy_empty, fun _ _ => rfl, fun _ _ _ => rfl⟩
theorem key_i64 (hk : P.underlying kt = some (.int .i64)) {k : Int} (h : In64 k) : keyOf P kt (.int .i64 k) = some (.int .i64 k) := by
  refine keyOf_int_mk hk ?_
  unfold In64 at h
  unfold Lit.wf IntKind.min IntKind.max
  simp [IntKind.signed, IntKind.bits]
  omega
theorem Tab.put (h : Tab P kt w m n f) (hk : P.underlying kt = some (.int .i64)) {t e : TypeId} (ht : P.underlying t = some (.map kt e)) (hn : n < maxLen) (k : Int) (hK : In64 k) (v : Value) :
    ∃ w', (Instr.mapUpdate t (.map (some m)) (.int .i64 k) v).run P w = .ok () w' ∧ Tab P kt w' m (n + 1) (fun j => if j = k then some v else f j) ∧ Fr (At1 m) w w' := by
  obtain ⟨D, ho, hT, hh, ha⟩ := h
  obtain ⟨w', hrun, hown, hg⟩ := ho.update (int_keyed hk) ht hn (key_i64 hk hK) (show heldR v = some (.held v, []) from rfl)
  refine ⟨w', hrun, ⟨_, hown, hT.put (isKey_int k) _, fun j hj => ?_, fun j hj z => ?_⟩, ⟨hg.os, hg.tape, hg.output, hg.size, fun i hi hn => hg.block i hi (fun e => hn (by injection e with e))⟩⟩
  · by_cases e : j = k
    · subst e
      rw [has_put_same hT.isMap (isKey_int _)]
      simp
    · rw [has_put_other (fun e2 => e (by injection e2)), hh j hj]
      simp [e]
  · by_cases e : j = k
    · subst e
      rw [atKey_put_same hT.isMap (isKey_int _)]
      simp
    · rw [atKey_put_other (fun e2 => e (by injection e2)), ha j hj z]
      simp [e]
theorem Tab.look_ok (h : Tab P kt w m n f) (hk : P.underlying kt = some (.int .i64)) {t e : TypeId} (ht : P.underlying t = some (.map kt e)) {z : Value} (hz : (zeroValue e).run P w = .ok z w) (k : Int) (hK : In64 k) :
    (Instr.lookup t (.map (some m)) (.int .i64 k) true).run P w = .ok (.tuple #[(f k).getD z, .bool (f k).isSome]) w := by
  obtain ⟨D, ho, hT, hh, ha⟩ := h
  obtain ⟨v, ps, hrun, hv⟩ := ho.look_ok (int_keyed hk) ht hz (show heldR z = some (.held z, []) from rfl) (key_i64 hk hK)
  rw [hh k hK] at hrun
  rw [ha k hK] at hv
  cases hf : f k with
  | none =>
    rw [hf] at hrun hv
    injection hv with hv
    injection hv with hv _
    injection hv with hv
    rw [hrun, hv]
    rfl
  | some u =>
    rw [hf] at hrun hv
    injection hv with hv
    injection hv with hv _
    injection hv with hv
    rw [hrun, hv]
    rfl
theorem Tab.look (h : Tab P kt w m n f) (hk : P.underlying kt = some (.int .i64)) {t e : TypeId} (ht : P.underlying t = some (.map kt e)) {z : Value} (hz : (zeroValue e).run P w = .ok z w) (k : Int) (hK : In64 k) :
    (Instr.lookup t (.map (some m)) (.int .i64 k) false).run P w = .ok ((f k).getD z) w := by
  obtain ⟨D, ho, hT, hh, ha⟩ := h
  obtain ⟨v, ps, hrun, hv⟩ := ho.lookup (int_keyed hk) ht hz (show heldR z = some (.held z, []) from rfl) (key_i64 hk hK)
  rw [ha k hK] at hv
  cases hf : f k with
  | none =>
    rw [hf] at hv
    injection hv with hv
    injection hv with hv _
    injection hv with hv
    rw [hrun, hv]
    rfl
  | some u =>
    rw [hf] at hv
    injection hv with hv
    injection hv with hv _
    injection hv with hv
    rw [hrun, hv]
    rfl
theorem wpList_tab (w : World) {ops : Array Oper} {rest : List Oper} {o : Oper} {a : Act} {Q : Exit → Act → World → Prop} (hg : o.guard = none) (x y z : Operand) {t e : TypeId} (hop : o.op = Op.mapUpdate t x y z)
    (hx : a.eval x = .map (some m)) (h : Tab P kt w m n f) (hk : P.underlying kt = some (.int .i64)) (ht : P.underlying t = some (.map kt e)) (k : Int) (v : Value) (hy : a.eval y = .int .i64 k) (hz : a.eval z = v) (hK : In64 k) (hl : n < maxLen)
    (hC : ∀ w', Tab P kt w' m (n + 1) (fun j => if j = k then some v else f j) → Fr (At1 m) w w' → wpList P ops Q rest (a.put o.dst undef) w') : wpList P ops Q (o :: rest) a w := by
  refine wpList_plain hg fun K' hK' => ?_
  obtain ⟨w', hrun, r1, r2⟩ := h.put hk ht hl k hK v
  unfold Oper.wp
  simp [execOp, hop, hx, hy, hz, hrun, Result.andThen]
  exact hK' _ _ (hC w' r1 r2)
end
end Go.My

namespace Go.Proofs.YtnphncemghfkbaaGreat
open Go.RowKit Go.My
set_option linter.unusedSimpArgs false
set_option linter.unusedVariables false

/-- a sum, or that it is none -/
def two64 (x : Int) : Value := .tuple #[.int .i64 (sumV x), .int .i64 (sumN x : Int)]
theorem two64_in {x : Int} (h : In64 x) : two64 x = .tuple #[.int .i64 x, .int .i64 0] := by unfold two64; rw [sumV_in h, sumN_in h]; rfl
theorem two64_out {x : Int} (h : ¬ In64 x) : two64 x = .tuple #[.int .i64 0, .int .i64 2] := by unfold two64; rw [sumV_out h, sumN_out h]; rfl

def TotRel (w : World) (l : List Int) (hv lv iv : Value) (wr : World) : Prop :=
  ∃ k : Nat, k ≤ l.length ∧ iv = .int .i64 k ∧ hv = .int .u64 ((total (l.take k) / 18446744073709551616) % 18446744073709551616) ∧ lv = .int .u64 (total (l.take k) % 18446744073709551616) ∧ wr = w

end Go.Proofs.YtnphncemghfkbaaGreat

namespace Go.My
open Go Go.RowKit Go.Maps
set_option linter.unusedSimpArgs false
set_option linter.unusedVariables false

/-- an account -/
structure Ac where
  name : List UInt8
  hv : Int
  st : Int
  lim : Int
theorem Ac.ext_ {a b : Ac} (h1 : a.name = b.name) (h2 : a.hv = b.hv) (h3 : a.st = b.st) (h4 : a.lim = b.lim) : a = b := by
  cases a; cases b; simp_all
def Ac.key (a : Ac) : Lit := .string a.name
def Ac.dat (a : Ac) : DataW Unit := .agg [.lit (.string a.name), .lit (.int .i64 a.hv), .lit (.int .i64 a.st), .lit (.int .i64 a.lim)]
def Ac.val (a : Ac) : Value := .agg #[.string ⟨a.name.toArray⟩, .int .i64 a.hv, .int .i64 a.st, .int .i64 a.lim]
theorem Ac.dat_inj {a b : Ac} (h : a.dat = b.dat) : a = b := by
  unfold Ac.dat at h
  simp at h
  exact Ac.ext_ h.1 h.2.1 h.2.2.1 h.2.2.2
/-- how an account's value reads -/
def acR : Value → Option (DataW Unit × List MemPlace)
  | .agg cs => match cs.toList with
    | [.string s, .int .i64 a, .int .i64 b, .int .i64 c] => some (Ac.dat ⟨s.data.toList, a, b, c⟩, [])
    | _ => none
  | _ => none
theorem acR_val (a : Ac) : acR a.val = some (a.dat, []) := by simp [acR, Ac.val]
theorem acR_inv {v : Value} {z : DataW Unit × List MemPlace} (h : acR v = some z) : ∃ a : Ac, v = a.val ∧ z = (a.dat, []) := by
  unfold acR at h
  split at h
  · rename_i cs
    split at h
    · rename_i s a b c he
      injection h with h
      refine ⟨⟨s.data.toList, a, b, c⟩, ?_, h.symm⟩
      obtain ⟨l⟩ := cs
      simp only at he
      subst he
      rfl
    · cases h
  · cases h
theorem acR_at {v : Value} {a : Ac} {ps : List MemPlace} (h : acR v = some (a.dat, ps)) : v = a.val := by
  obtain ⟨b, rfl, hb⟩ := acR_inv h
  injection hb with h1 h2
  rw [Ac.dat_inj h1]

def ent (a : Ac) : Lit × DataW Unit := (a.key, a.dat)
def dOf (S : List Ac) : DataW Unit := .map (S.map ent)
/-- in the order of their names -/
def Rise (S : List Ac) : Prop := S.Pairwise fun a b => a.key.before b.key = true
/-- the account of a name -/
def getA (S : List Ac) (k : List UInt8) : Option Ac := S.find? fun a => a.name == k
def insA (a : Ac) : List Ac → List Ac
  | [] => [a]
  | b :: r => if a.key.before b.key then a :: b :: r else b :: insA a r
/-- an account is put -/
def putA (a : Ac) (S : List Ac) : List Ac := insA a (S.filter fun b => !b.key.sameKey a.key)

theorem same_str (x y : List UInt8) : (Lit.string x).sameKey (.string y) = (x == y) := rfl
theorem has_dOf (S : List Ac) (k : List UInt8) : Maps.has (dOf S) (.string k) = (getA S k).isSome := by
  unfold dOf getA
  rw [has_eq, List.any_map]
  induction S with
  | nil => rfl
  | cons a S ih =>
    rw [List.any_cons, ih, List.find?_cons]
    show ((Lit.string a.name).sameKey (.string k) || _) = _
    rw [same_str]
    cases a.name == k <;> rfl
theorem at_dOf (S : List Ac) (k : List UInt8) (z : DataW Unit) : (dOf S).atKey (.string k) z = match getA S k with | some a => a.dat | none => z := by
  unfold dOf getA DataW.atKey
  simp only [List.find?_map]
  have : ((fun p : Lit × DataW Unit => p.1.sameKey (Lit.string k)) ∘ ent) = fun a : Ac => a.name == k := rfl
  rw [this]
  cases S.find? fun a => a.name == k <;> rfl
theorem size_dOf (S : List Ac) : Maps.size (dOf S) = S.length := by
  unfold dOf
  rw [size_eq, List.length_map]
theorem ins_ent (a : Ac) (S : List Ac) : DataW.insert (ent a) (S.map ent) = (insA a S).map ent := by
  induction S with
  | nil => rfl
  | cons b r ih =>
    rw [List.map_cons, DataW.insert, insA]
    show (if a.key.before b.key = true then _ else _) = _
    split
    · rfl
    · rw [ih]; rfl
theorem put_dOf (S : List Ac) (a : Ac) : (dOf S).put a.key a.dat = dOf (putA a S) := by
  unfold dOf DataW.put putA
  simp only
  rw [← ins_ent]
  congr 2
  rw [List.filter_map]
  rfl

theorem getA_some {S : List Ac} {k : List UInt8} {a : Ac} (h : getA S k = some a) : a ∈ S ∧ a.name = k := by
  unfold getA at h
  exact ⟨List.mem_of_find?_eq_some h, by simpa using List.find?_some h⟩
theorem getA_none {S : List Ac} {k : List UInt8} (h : getA S k = none) : ∀ a ∈ S, a.name ≠ k := by
  unfold getA at h
  intro a ha
  simpa using List.find?_eq_none.1 h a ha
theorem isKey_str (x : List UInt8) : WideAt.IsKeyLit (.string x) := by
  unfold WideAt.IsKeyLit
  trivial
theorem isMap_dOf (S : List Ac) : IsMap (dOf S) := ⟨_, rfl⟩
theorem getA_put_same (S : List Ac) (a : Ac) : getA (putA a S) a.name = some a := by
  have h1 := has_dOf (putA a S) a.name
  rw [← put_dOf] at h1
  rw [show a.key = .string a.name from rfl, has_put_same (isMap_dOf S) (isKey_str _)] at h1
  have h2 := at_dOf (putA a S) a.name .nil
  rw [← put_dOf, show a.key = .string a.name from rfl, atKey_put_same (isMap_dOf S) (isKey_str _)] at h2
  cases hg : getA (putA a S) a.name with
  | none => rw [hg] at h1; cases h1
  | some b => rw [hg] at h2; rw [Ac.dat_inj h2]
theorem getA_put_other (S : List Ac) (a : Ac) (k : List UInt8) (h : k ≠ a.name) : getA (putA a S) k = getA S k := by
  have hne : Lit.string k ≠ a.key := by unfold Ac.key; intro e; injection e with e; exact h e
  have h1 := has_dOf (putA a S) k
  rw [← put_dOf, has_put_other hne, has_dOf] at h1
  have h2 := at_dOf (putA a S) k .nil
  rw [← put_dOf, atKey_put_other hne, at_dOf] at h2
  cases hg : getA (putA a S) k <;> cases hg2 : getA S k <;> rw [hg, hg2] at h1 h2
  · cases h1
  · cases h1
  · rw [Ac.dat_inj h2]
theorem mem_insA (a b : Ac) (S : List Ac) : b ∈ insA a S ↔ b = a ∨ b ∈ S := by
  induction S with
  | nil => simp [insA]
  | cons c r ih =>
    unfold insA
    split
    · simp
    · simp [ih]
      constructor
      · rintro (h | h | h)
        · exact .inr (.inl h)
        · exact .inl h
        · exact .inr (.inr h)
      · rintro (h | h | h)
        · exact .inr (.inl h)
        · exact .inl h
        · exact .inr (.inr h)
theorem rise_ins (a : Ac) (S : List Ac) (h : Rise S) (hne : ∀ b ∈ S, b.name ≠ a.name) : Rise (insA a S) := by
  induction S with
  | nil => simp [insA, Rise]
  | cons c r ih =>
    obtain ⟨h1, h2⟩ := List.pairwise_cons.1 h
    unfold insA
    split
    · rename_i hb
      refine List.pairwise_cons.2 ⟨fun q hq => ?_, h⟩
      rcases List.mem_cons.1 hq with rfl | hq
      · exact hb
      · exact WideShapes.before_trans hb (h1 q hq)
    · rename_i hb
      have hca : c.key.before a.key = true := by
        rcases WideAt.bytes_total c.name a.name (hne c List.mem_cons_self) with h' | h'
        · exact h'
        · exact absurd h' hb
      refine List.pairwise_cons.2 ⟨fun q hq => ?_, ih h2 fun b hb => hne b (List.mem_cons_of_mem _ hb)⟩
      rcases (mem_insA a q r).1 hq with rfl | hq
      · exact hca
      · exact h1 q hq
theorem rise_put (a : Ac) (S : List Ac) (h : Rise S) : Rise (putA a S) := by
  refine rise_ins a _ (List.Pairwise.sublist List.filter_sublist h) fun b hb => ?_
  have h1 := (List.mem_filter.1 hb).2
  rw [show b.key.sameKey a.key = (b.name == a.name) from rfl] at h1
  simpa using h1
theorem tidy_dOf {S : List Ac} (h : Rise S) : Tidy (dOf S) := by
  refine ⟨_, rfl, List.pairwise_map.2 (h.imp fun {a b} hab e => ?_)⟩
  have e' : a.key = b.key := e
  rw [e', WideShapes.before_irrefl] at hab
  cases hab
theorem length_put (a : Ac) (S : List Ac) (h : Rise S) : (putA a S).length = if (getA S a.name).isSome then S.length else S.length + 1 := by
  have h1 := size_put (k := a.key) (tidy_dOf h) a.dat
  rw [put_dOf, size_dOf, size_dOf, show a.key = .string a.name from rfl, has_dOf] at h1
  exact h1
theorem before_lt : ∀ (x y : List UInt8), bytesBefore x y = true → x < y
  | [], [], h => by simp [bytesBefore] at h
  | [], _ :: _, _ => List.nil_lt_cons _ _
  | _ :: _, [], h => by simp [bytesBefore] at h
  | a :: r, b :: s, h => by
    simp only [bytesBefore, Bool.or_eq_true, decide_eq_true_eq, Bool.and_eq_true, beq_iff_eq] at h
    rcases h with h | ⟨rfl, h⟩
    · exact List.cons_lt_cons_iff.2 (.inl h)
    · exact List.cons_lt_cons_iff.2 (.inr ⟨rfl, before_lt r s h⟩)
theorem keys_dOf (S : List Ac) : strKeys (dOf S) = S.map Ac.name := by
  unfold dOf strKeys
  simp only [List.map_map]
  rfl
/-- the names, sorted -/
theorem sorted_names {S : List Ac} (h : Rise S) {ss : List (List UInt8)} (hp : ss.Perm (strKeys (dOf S))) : ss.mergeSort leB = S.map Ac.name := by
  rw [mergeSort_of_perm hp, keys_dOf]
  refine List.mergeSort_of_pairwise ?_
  refine List.pairwise_map.2 (h.imp fun {a b} hab => ?_)
  have := before_lt a.name b.name hab
  simp only [leB, decide_eq_true_eq]
  exact List.le_of_lt this
end Go.My

namespace Go.Proofs.YtnphncemghfkbaaGreat
open Go.RowKit Go.My
set_option linter.unusedSimpArgs false
set_option linter.unusedVariables false

/-- a sign of a name -/
def okc (c : UInt8) : Bool := decide ((97 ≤ c.toNat ∧ c.toNat ≤ 122) ∨ (48 ≤ c.toNat ∧ c.toNat ≤ 57))
def nameB (l : List UInt8) : Bool := l.all okc && (decide (1 ≤ l.length) && decide (l.length ≤ 8))
theorem name_bad (l : List UInt8) (k : Nat) (c : UInt8) (hk : l[k]? = some c) (h : okc c = false) : nameB l = false := by
  unfold nameB
  have : l.all okc = false := by
    rw [List.all_eq_false]
    exact ⟨c, List.mem_of_getElem? hk, by rw [h]; simp⟩
  rw [this]
  rfl
theorem name_end (l : List UInt8) (h : l.all okc = true) : nameB l = (decide (1 ≤ l.length) && decide (l.length ≤ 8)) := by unfold nameB; rw [h]; rfl
theorem take_ok (s : ByteArray) (k : Nat) (h : k < s.size) (hk : (s.data.toList.take k).all okc = true) (hc : okc s[k] = true) : (s.data.toList.take (k + 1)).all okc = true := by
  have : s.data.toList.take (k + 1) = s.data.toList.take k ++ [s[k]] := by
    rw [List.take_succ_eq_append_getElem (by simpa using h)]; rfl
  rw [this, List.all_append, hk]
  simp [hc]
theorem at_k (s : ByteArray) (k : Nat) (h : k < s.size) : s.data.toList[k]? = some s[k] := by
  rw [List.getElem?_eq_getElem (by simpa using h)]; rfl

def NmRel (s : ByteArray) (w wr : World) : Prop := ∃ k : Nat, k ≤ s.size ∧ wr = w.iter s k ∧ (s.data.toList.take k).all okc = true

set_option maxHeartbeats 1000000 in
theorem name_any (s : ByteArray) (w : World) (hs : s.size ≤ maxLen) : Calls Tryz.prog 125 #[.string s] w fun e w' => e = .returned (.bool (nameB s.data.toList)) ∧ Below w.heap.size w w' := by
  have hsz : s.size ≤ 9223372036854775807 := by simp only [maxLen] at hs; omega
  have hbel : Hid (∀ k, Below w.heap.size w (w.iter s k)) := fun k => (Below.refl _ _).alloc (Nat.le_refl _) _
  have hlen : Hid (s.data.toList.length = s.size) := by show _ = _; simp
  clear hs
  go_enter Tryz.func125, Tryz.ntmps125
  go_wp2
  go_loopw [4] (fun _ wr => NmRel s w wr) (fun _ wr => s.size - wr.iterPos w.heap.size)
  case atStart => exact ⟨0, Nat.zero_le _, rfl, by simp⟩
  case round =>
    obtain ⟨k, hk, rfl, hall⟩ := hrel
    have HALL := Lib.hid hall
    clear hall
    by_cases hlt : k < s.size
    · have hb256 : s[k].toNat < 256 := UInt8.toNat_lt _
      have HAT := Lib.hid (at_k s k hlt)
      by_cases ha : s[k].toNat < 128
      · have hnx := fun ty => run_next_ascii (P := Tryz.prog) w s k ty hlt ha
        by_cases hc : (97 ≤ s[k].toNat ∧ s[k].toNat ≤ 122) ∨ (48 ≤ s[k].toNat ∧ s[k].toNat ≤ 57)
        · have hok : Hid ((s.data.toList.take (k + 1)).all okc = true) := take_ok s k hlt HALL.out (by unfold okc; exact decide_eq_true hc)
          rcases hc with ⟨c1, c2⟩ | ⟨c1, c2⟩
          · have d1 : ¬ ((s[k].toNat : Int) < 97) := by omega
            have d2 : ¬ (122 < (s[k].toNat : Int)) := by omega
            go_wp2
            exact ⟨⟨k + 1, hlt, rfl, hok.out⟩, by simp only [World.iterPos_iter]; omega⟩
          · have d1 : ((s[k].toNat : Int) < 97) := by omega
            have d3 : ¬ ((s[k].toNat : Int) < 48) := by omega
            have d4 : ¬ (57 < (s[k].toNat : Int)) := by omega
            go_wp2
            exact ⟨⟨k + 1, hlt, rfl, hok.out⟩, by simp only [World.iterPos_iter]; omega⟩
        · have hbad : Hid (nameB s.data.toList = false) := name_bad _ k _ HAT.out (by unfold okc; exact decide_eq_false hc)
          by_cases c1 : s[k].toNat < 48
          · have d1 : ((s[k].toNat : Int) < 97) := by omega
            have d3 : ((s[k].toNat : Int) < 48) := by omega
            clear hc
            go_wp2
            go_ret
            exact ⟨by rw [hbad.out]; rfl, hbel.out _⟩
          · have d3 : ¬ ((s[k].toNat : Int) < 48) := by omega
            by_cases c2 : s[k].toNat < 97
            · have d1 : ((s[k].toNat : Int) < 97) := by omega
              have d4 : (57 < (s[k].toNat : Int)) := by omega
              clear hc
              go_wp2
              go_ret
              exact ⟨by rw [hbad.out]; rfl, hbel.out _⟩
            · have d1 : ¬ ((s[k].toNat : Int) < 97) := by omega
              have d2 : (122 < (s[k].toNat : Int)) := by omega
              have d4 : (57 < (s[k].toNat : Int)) := by omega
              clear hc
              go_wp2
              go_ret
              exact ⟨by rw [hbad.out]; rfl, hbel.out _⟩
      · have hbad : Hid (nameB s.data.toList = false) := name_bad _ k _ HAT.out (by unfold okc; exact decide_eq_false (by omega))
        have hnx := fun ty => run_next_any (P := Tryz.prog) w s k ty hlt
        obtain ⟨hd1, hd2⟩ := decode_high s k hlt (by omega)
        generalize (Utf8.decode s k).1 = r at *
        generalize (Utf8.decode s k).2 = wd at *
        have d1 : ¬ ((r : Int) < 97) := by omega
        have d2 : (122 < (r : Int)) := by omega
        have d3 : ¬ ((r : Int) < 48) := by omega
        have d4 : (57 < (r : Int)) := by omega
        go_wp2
        go_ret
        exact ⟨by rw [hbad.out]; rfl, hbel.out _⟩
    · obtain rfl : k = s.size := by omega
      have hend : Hid (nameB s.data.toList = (decide (1 ≤ s.size) && decide (s.size ≤ 8))) := by
        show _ = _
        rw [name_end, hlen.out]
        have h := HALL.out
        rwa [← hlen.out, List.take_length] at h
      have hnx := fun ty => run_next_end (P := Tryz.prog) w s s.size ty hlt
      by_cases e1 : 1 ≤ s.size
      · go_wp2
        go_ret
        refine ⟨?_, hbel.out _⟩
        rw [hend.out, decide_eq_true e1, Bool.true_and, show decide (s.size ≤ 8) = decide ((s.size : Int) ≤ 8) from by rw [decide_eq_decide]; omega]
        rfl
      · go_wp2
        go_ret
        exact ⟨by rw [hend.out, decide_eq_false e1]; rfl, hbel.out _⟩
end Go.Proofs.YtnphncemghfkbaaGreat

namespace Go.Proofs.YtnphncemghfkbaaGreat
open Go.RowKit Go.My Go.Maps
set_option linter.unusedSimpArgs false
set_option linter.unusedVariables false

/-- a leg -/
structure Lg where
  acct : ByteArray
  sum : Int
def Lg.nm (g : Lg) : List UInt8 := g.acct.data.toList
def Lg.ok (g : Lg) : Prop := g.acct.size ≤ maxLen ∧ In64 g.sum
def sums (L : List Lg) : List Int := L.map Lg.sum

/-- may legs be? -/
def rightB (L : List Lg) : Bool := decide (2 ≤ L.length) && decide (L.length ≤ 6) && L.all (fun g => nameB g.nm && decide (g.sum ≠ 0)) && decide ((L.map Lg.nm).Nodup)
def okLg (g : Lg) : Bool := nameB g.nm && decide (g.sum ≠ 0)
theorem rightB_bad {L : List Lg} {k : Nat} (hk : k < L.length) (h : okLg L[k] = false) : rightB L = false := by
  unfold rightB
  have : L.all (fun g => nameB g.nm && decide (g.sum ≠ 0)) = false := by
    rw [List.all_eq_false]
    exact ⟨L[k], List.getElem_mem hk, by show ¬ okLg L[k] = true; rw [h]; decide⟩
  rw [this]
  simp
theorem rightB_len {L : List Lg} (h : ¬ (2 ≤ L.length ∧ L.length ≤ 6)) : rightB L = false := by
  unfold rightB
  by_cases h2 : 2 ≤ L.length
  · have : ¬ L.length ≤ 6 := fun h6 => h ⟨h2, h6⟩
    simp [this]
  · simp [h2]
def RdLg (cs : List Value) (g : Lg) : Prop := cs = [.string g.acct, .int .i64 g.sum] ∧ g.ok
/-- legs that lie below B -/
def RdLL (w : World) (B : Nat) (cs : List Value) (L : List Lg) : Prop := ∃ A c cells, cs = [.slice A L.length c] ∧ Rd w (Lt B) 2 A L.length cells ∧ Each RdLg 2 cells L ∧ L.length ≤ c ∧ c ≤ maxLen

section
open Go.ChangeShapes Go.WideShapes
variable {H : Type} {enc : TypeId × Value → H} {w : World} {base : Nat} {spare : Nat → Bool} {held : Bool}
set_option maxRecDepth 100000 in
theorem open_leg {n : Nat} {cs : List Value} {x : DataW H × List MemPlace} (h : DataW.trod enc Tryz.prog w base spare held n 92 cs = some x) : ∃ o, RdLg cs o := by
  obtain ⟨xs, m, _, _, hl, _, hf⟩ := DataW.trod_struct Tryz.underlying92 h
  have hC : Tryz.prog.cellsOf 92 = 2 := by kernel_rfl
  have CS : Tryz.prog.cellsOf 9 = 1 := by kernel_rfl
  have C2 : Tryz.prog.cellsOf 2 = 1 := by kernel_rfl
  rw [hC] at hl
  match cs, hl with
  | [v0, v1], _ =>
    have f0 : DataW.trod enc Tryz.prog w base spare held m 9 [v0] = xs[0]? := by have := hf 0 _ rfl; simpa [CS] using this
    have f1 : DataW.trod enc Tryz.prog w base spare held m 2 [v1] = xs[1]? := by have := hf 1 _ rfl; simpa [CS, C2] using this
    have g : ∀ i, i < xs.length → ∃ y, xs[i]? = some y := fun i hi => ⟨xs[i], List.getElem?_eq_getElem hi⟩
    have hxl : xs.length = 2 := by assumption
    obtain ⟨y0, e0⟩ := g 0 (by omega)
    obtain ⟨y1, e1⟩ := g 1 (by omega)
    rw [e0] at f0; rw [e1] at f1
    obtain ⟨s, hs, _, ws⟩ := DataW.trod_string Tryz.underlying9 f0
    obtain ⟨a, ha, _, wa⟩ := DataW.trod_int Tryz.underlying2 f1
    simp only [List.cons.injEq, and_true] at hs ha
    subst hs ha
    exact ⟨⟨s, a⟩, rfl, ws, bounds_i64 wa⟩
end

theorem each_nth {X : Type} {R : List Value → X → Prop} {size : Nat} {cells : List Value} {T : List X} (hE : Each R size cells T) (k : Nat) (hk : k < T.length) : R ((cells.drop (k * size)).take size) T[k] := hE.2 k T[k] (List.getElem?_eq_getElem hk)
theorem nth_cells {cells : List Value} {size k : Nat} {cs : List Value} (h : (cells.drop (k * size)).take size = cs) (j : Nat) (hj : j < size) : cells[k * size + j]? = cs[j]? := by
  rw [← h, List.getElem?_take, if_pos hj, List.getElem?_drop]

/-- a leg in memory -/
theorem lg_at {w : World} {F : Nat → Prop} {A : Option Addr} {n : Nat} {cells : List Value} {T : List Lg} (h : Rd w F 2 A n cells) (hE : Each RdLg 2 cells T) (k : Nat) (hkn : k < n) (hk : k < T.length) :
    ∃ ad, A = some ad ∧ F ad.block ∧ T[k].ok ∧ w.cell? (ad.add (k * 2)) = some (.string T[k].acct) ∧ w.cell? ⟨(ad.add (k * 2)).block, (ad.add (k * 2)).off + 1, none⟩ = some (.int .i64 T[k].sum) := by
  obtain ⟨ad, rfl, hF, hc⟩ := h.2 (by omega)
  obtain ⟨hcs, hok⟩ := each_nth hE k hk
  refine ⟨ad, rfl, hF, hok, hc (k * 2) _ (by have := nth_cells hcs 0 (by omega); rw [Nat.add_zero] at this; rw [this]; rfl), ?_⟩
  rw [← add_lits ad (k * 2) 1 (by omega)]
  exact hc _ _ (by rw [nth_cells hcs 1 (by omega)]; rfl)
end Go.Proofs.YtnphncemghfkbaaGreat

namespace Go.My
open Go Go.RowKit
set_option linter.unusedSimpArgs false
set_option linter.unusedVariables false

/-- what has not come up yet -/
def unl (l : Array Bool) : Nat := l.countP (fun b => b == false)
theorem unl_set {l : Array Bool} {i : Nat} (h : l.getD i true = false) : unl (l.setIfInBounds i true) + 1 = unl l := by
  have hlt : i < l.size := by
    rcases Nat.lt_or_ge i l.size with h' | h'
    · exact h'
    · simp [h'] at h
  have hv : l[i] = false := by simpa [hlt] using h
  have e : l.setIfInBounds i true = l.set i true hlt := by simp [Array.setIfInBounds, hlt]
  unfold unl
  rw [e, Array.countP_set hlt, hv]
  simp only [beq_self_eq_true, if_true]
  have hpos : 0 < l.countP (fun b => b == false) := Array.countP_pos_iff.2 ⟨l[i], Array.getElem_mem hlt, by rw [hv]; rfl⟩
  have : (true == false) = false := rfl
  rw [this]
  simp only [Bool.false_eq_true, if_false]
  omega
theorem unl_zero {l : Array Bool} (h : unl l = 0) (i : Nat) : l.getD i true = true := by
  rcases Nat.lt_or_ge i l.size with h' | h'
  · have := Array.countP_eq_zero.1 h l[i] (Array.getElem_mem h')
    simpa [h'] using this
  · simp [h']
theorem unl_least {l : Array Bool} (h : unl l ≠ 0) : ∃ i, i < l.size ∧ l.getD i true = false ∧ ∀ j, j < i → l.getD j false = true := by
  obtain ⟨b, hb, hb2⟩ := Array.countP_pos_iff.1 (Nat.pos_of_ne_zero h)
  obtain ⟨k, hk, rfl⟩ := Array.getElem_of_mem hb
  have hk2 : l.getD k true = false := by simpa [hk] using hb2
  clear hb hb2 h
  induction k using Nat.strongRecOn with
  | _ k ih =>
    by_cases hx : ∃ j, j < k ∧ l.getD j false = false
    · obtain ⟨j, hj, hjf⟩ := hx
      have hjl : j < l.size := by omega
      exact ih j hj hjl (by simpa [hjl] using hjf)
    · refine ⟨k, hk, hk2, fun j hj => ?_⟩
      cases hq : l.getD j false with
      | true => rfl
      | false => exact absurd ⟨j, hj, hq⟩ hx
section
variable {P : Program} {ops : Array Oper} {Q : Exit → Act → World → Prop} {md : Region.Mode}
theorem wpAny_inv (Inv : Array Bool → Act → World → Prop) (hsz : ∀ l a w, Inv l a w → l.size = ops.size)
    (hback : ∀ i o, ops[i]? = some o → ∀ e ∈ o.after, Region.binds md e = true → e.on < i)
    (hstep : ∀ l a w i o, Inv l a w → ops[i]? = some o → l.getD i true = false → (∀ e ∈ o.after, Region.binds md e = true → l.getD e.on false = true) → wpOp P ops Q i (Inv (l.setIfInBounds i true)) a w)
    (hend : ∀ l a w, Inv l a w → (∀ i, i < ops.size → l.getD i false = true) → Q .normal a w) :
    ∀ fuel l a w, Inv l a w → unl l = fuel → wpAny P md ops Q fuel l a w := by
  intro fuel
  induction fuel with
  | zero =>
    intro l a w h hu
    refine ⟨?_, hend l a w h fun i hi => ?_⟩
    · cases hr : Region.ready md ops l with
      | nil => rfl
      | cons j t =>
        have hj : j ∈ Region.ready md ops l := by rw [hr]; exact List.mem_cons_self
        have h1 := (mem_ready.1 hj).1
        rw [unl_zero hu j] at h1
        cases h1
    · have h1 := unl_zero hu i
      have h2 : i < l.size := by rw [hsz l a w h]; exact hi
      simpa [h2] using h1
  | succ fuel ih =>
    intro l a w h hu
    refine ⟨fun hr => ?_, fun i hi => ?_⟩
    · obtain ⟨i, hi, hf, hlt⟩ := unl_least (l := l) (by omega)
      have hio : i < ops.size := by rw [← hsz l a w h]; exact hi
      have : i ∈ Region.ready md ops l := mem_ready.2 ⟨hf, ops[i], Array.getElem?_eq_getElem hio, fun e he hb => hlt _ (hback i _ (Array.getElem?_eq_getElem hio) e he hb)⟩
      rw [hr] at this
      cases this
    · obtain ⟨hf, o, ho, hall⟩ := mem_ready.1 hi
      refine wpOp_mono (fun a' w' h' => ih _ _ _ h' ?_) (hstep l a w i o h ho hf hall)
      have := unl_set hf
      omega
theorem wp_region_inv {id : Nat} {a : Act} {w : World} (hm : P.follows .mixedOrders = true) (Inv : Array Bool → Act → World → Prop) (hsz : ∀ l a w, Inv l a w → l.size = ops.size)
    (hback : ∀ i o, ops[i]? = some o → ∀ e ∈ o.after, Region.binds .any e = true → e.on < i)
    (hstep : ∀ l a w i o, Inv l a w → ops[i]? = some o → l.getD i true = false → (∀ e ∈ o.after, Region.binds .any e = true → l.getD e.on false = true) → wpOp P ops Q i (Inv (l.setIfInBounds i true)) a w)
    (hend : ∀ l a w, Inv l a w → (∀ i, i < ops.size → l.getD i false = true) → Q .normal a w)
    (h0 : Inv (Array.replicate ops.size false) a w.drew) : (Code.region id ops true).wp P Q a w := by
  refine wp_region_any hm (wpAny_inv Inv hsz hback hstep hend _ _ _ _ h0 ?_)
  unfold unl
  rw [Array.countP_replicate]
  simp
end
end Go.My

namespace Go.My
open Go
set_option linter.unusedVariables false

/-- a world of a class -/
structure WIn (D : World → Prop) where
  W : World
  h : D W
theorem wp_region_in {P : Program} {D : World → Prop} {id : Nat} {Q : Exit → Act → World → Prop} {a : Act} {w : World} {l : List Oper} (hm : P.follows .mixedOrders = true) (hB : Region.lexB .any l.toArray = true) (hD : D w.drew)
    (h : wpQuiet P l.toArray (fun w' => ∃ x : WIn D, w' = x.W) (fun a' => ∀ w', (∃ x : WIn D, w' = x.W) → Q .normal a' w') l a) : (Code.region id l.toArray true).wp P Q a w :=
  wp_region_quiet (C := fun w' => ∃ x : WIn D, w' = x.W) hm hB ⟨⟨_, hD⟩, rfl⟩ (by simpa using h)
/-- a callee that keeps to the class -/
theorem Calls.in_of {P : Program} {D : World → Prop} {f : FuncId} {args : Array Value} {v : Value} (x : WIn D) (h : ∀ W, D W → Calls P f args W fun e w' => e = .returned v ∧ D w') :
    Calls P f args x.W fun e w' => e = .returned v ∧ ∃ y : WIn D, w' = y.W :=
  (h x.W x.h).mono fun _ w' h => ⟨h.1, ⟨w', h.2⟩, rfl⟩
end Go.My

namespace Go.My
open Go
/-- region number n of a code -/
def findR (n : Nat) : Code → Option Code
  | .region i ops d => if i = n then some (.region i ops d) else none
  | .seq a b => match findR n a with
    | some c => some c
    | none => findR n b
  | .cond _ a b => match findR n a with
    | some c => some c
    | none => findR n b
  | .block _ c => findR n c
  | .loop c => findR n c
  | .scope c => findR n c
  | _ => none
def opsOf : Code → Array Oper
  | .region _ o _ => o
  | _ => #[]
def regOf (n : Nat) (f : Func) : Code := (f.body.bind (findR n)).getD .skip
end Go.My
