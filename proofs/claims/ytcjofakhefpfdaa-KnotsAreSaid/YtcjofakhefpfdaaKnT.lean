/- What a set of places leads to: the walk. -/
import Derived.Test.YtcjofakhefpfdaaKnS
namespace Go.Proofs.Ytcjofakhefpfdaa
open Go.RowKit Go.My Go.Maps
set_option linter.unusedSimpArgs false
set_option linter.unusedVariables false
attribute [local go_sem ↓] Go.wp_at_zero Go.wp_at_succ

theorem elBo : El Try.prog 30 4 1 1 := ⟨Try.underlying30, by
  have h : (Try.prog.info? 4).map (fun i => (i.zero, i.size, i.bytes)) = some (some (.bool false), 1, 1) := by kernel_rfl
  obtain ⟨i, hi, hz, hs, hb⟩ := info_parts h
  exact ⟨i, _, hi, hz, hs, hb, rfl⟩, by omega⟩
theorem zeroBo : ∀ i, Try.prog.info? 4 = some i → i.zero = some (.bool false) := fun i hi => by
  have h : (Try.prog.info? 4).map (fun i => i.zero) = some (some (.bool false)) := by kernel_rfl
  rw [hi] at h
  simpa using h
/-- which places a list holds -/
def bo (n : Nat) (l : List Int) : List Value := (List.range n).map fun (k : Nat) => Value.bool (l.contains (k : Int))
theorem bo_len (n : Nat) (l : List Int) : (bo n l).length = n := by simp [bo]
theorem bo_at (n : Nat) (l : List Int) (k : Nat) (h : k < n) : (bo n l)[k]? = some (.bool (l.contains (k : Int))) := by simp [bo, h]
theorem bo_nil (n : Nat) : bo n [] = zrow n (.bool false) := by
  apply List.ext_getElem?
  intro k
  unfold bo zrow
  by_cases h : k < n
  · simp [h]
  · simp [h]
theorem bo_set (n : Nat) (l : List Int) (k : Nat) (h : k < n) : (bo n l).set k (.bool true) = bo n (l ++ [(k : Int)]) := by
  apply List.ext_getElem?
  intro i
  by_cases hi : i < n
  · by_cases e : i = k
    · subst e
      rw [List.getElem?_set_self (by rw [bo_len]; exact hi), bo_at _ _ _ hi]
      simp
    · rw [List.getElem?_set_ne (fun e2 => e e2.symm), bo_at _ _ _ hi, bo_at _ _ _ hi]
      have : ¬ ((i : Int) = (k : Int)) := by omega
      simp [this]
  · rw [List.getElem?_eq_none (by rw [List.length_set, bo_len]; omega), List.getElem?_eq_none (by rw [bo_len]; omega)]
def slen : Value → Nat
  | .slice _ n _ => n
  | _ => 0
theorem ob_len (A : Option Addr) (n m c d : Nat) : (Value.slice A n c).ownBlock = (Value.slice A m d).ownBlock := by cases A <;> rfl

/-- the three rows in memory -/
structure SpM (w wr : World) (n : Nat) (st l : List Int) (A : Option Addr) (c : Nat) (B : Option Addr) (d : Nat) : Prop where
  so : Own wr 3 1 (.slice A st.length c) st.length (is_ st)
  lo : Own wr 3 1 (.slice B l.length d) l.length (is_ l)
  bb : Own wr 4 1 (.slice (some ⟨w.heap.size, 0, none⟩) n n) n (bo n l)
  sn : ∀ k, (Value.slice A st.length c).ownBlock = some k → w.heap.size ≤ k
  ln : ∀ k, (Value.slice B l.length d).ownBlock = some k → w.heap.size ≤ k
  ap : ∀ k, (Value.slice A st.length c).ownBlock = some k → (Value.slice B l.length d).ownBlock ≠ some k
  f : Fr No w wr
theorem SpM.pop {w wr : World} {n : Nat} {st l : List Int} {v : Int} {A : Option Addr} {c : Nat} {B : Option Addr} {d : Nat} (h : SpM w wr n (st ++ [v]) l A c B d) : SpM w wr n st l A c B d where
  so := own_pop (x := .int .i64 v) (by have := h.so; rw [is_append, List.length_append] at this; exact this)
  lo := h.lo
  bb := h.bb
  sn k hk := h.sn k (by rw [ob_len A _ st.length _ c]; exact hk)
  ln := h.ln
  ap k hk := h.ap k (by rw [ob_len A _ st.length _ c]; exact hk)
  f := h.f
theorem SpM.push {w wr w2 w3 : World} {n : Nat} {st l : List Int} {k : Nat} {A A2 A3 : Option Addr} {c c2 c3 : Nat} {B : Option Addr} {d : Nat} {o1 o2 : Obj} (h : SpM w wr n st l A c B d) (hk : k < n)
    (h2 : Own w2 3 1 (.slice A2 (st.length + 1) c2) (st.length + 1) (is_ st ++ [.int .i64 (k : Int)]))
    (f2 : Fr (AtO (Value.slice A st.length c).ownBlock) ((wr.setCell ⟨w.heap.size, k, none⟩ (.bool true)).alloc o1) w2)
    (n2 : (Value.slice A2 (st.length + 1) c2).ownBlock = (Value.slice A st.length c).ownBlock ∨ (Value.slice A2 (st.length + 1) c2).ownBlock = some ((wr.setCell ⟨w.heap.size, k, none⟩ (.bool true)).alloc o1).heap.size)
    (h3 : Own w3 3 1 (.slice A3 (l.length + 1) c3) (l.length + 1) (is_ l ++ [.int .i64 (k : Int)]))
    (f3 : Fr (AtO (Value.slice B l.length d).ownBlock) (w2.alloc o2) w3)
    (n3 : (Value.slice A3 (l.length + 1) c3).ownBlock = (Value.slice B l.length d).ownBlock ∨ (Value.slice A3 (l.length + 1) c3).ownBlock = some (w2.alloc o2).heap.size) :
    SpM w w3 n (st ++ [(k : Int)]) (l ++ [(k : Int)]) A2 c2 A3 c3 := by
  have hb := (h.bb.store k hk (.bool true)).1
  rw [bo_set n l k hk] at hb
  have hsz0 := h.f.size
  have hsz1 : ((wr.setCell ⟨w.heap.size, k, none⟩ (.bool true)).alloc o1).heap.size = wr.heap.size + 1 := by rw [World.size_alloc, World.size_setCell]
  have hsz2 := f2.size
  have hsz3 : (w2.alloc o2).heap.size = w2.heap.size + 1 := World.size_alloc _ _
  obtain ⟨cur, hcur⟩ := h.bb.blk w.heap.size rfl
  have sne : (Value.slice A st.length c).ownBlock ≠ some w.heap.size := h.so.ne_ hcur (by decide)
  have lne : (Value.slice B l.length d).ownBlock ≠ some w.heap.size := h.lo.ne_ hcur (by decide)
  have hl1 : Own ((wr.setCell ⟨w.heap.size, k, none⟩ (.bool true)).alloc o1) 3 1 (.slice B l.length d) l.length (is_ l) := (h.lo.setCell (p := ⟨w.heap.size, k, none⟩) lne _).alloc _
  have hb2 := (hb.alloc o1).fr f2 fun i hi hS => sne (by injection hi with hi; subst hi; exact hS)
  have hb3 := (hb2.alloc o2).fr f3 fun i hi hS => lne (by injection hi with hi; subst hi; exact hS)
  have hap : ∀ i, (Value.slice A2 (st.length + 1) c2).ownBlock = some i → (Value.slice B l.length d).ownBlock ≠ some i := fun i hi e => by
    rcases n2 with n2 | n2
    · exact h.ap i (n2 ▸ hi) e
    · rw [n2] at hi
      injection hi with hi
      have := h.lo.lt i e
      omega
  have hs3 := (h2.alloc o2).fr f3 fun i hi hS => hap i hi hS
  have hnew2 : ∀ i, (Value.slice A2 (st.length + 1) c2).ownBlock = some i → w.heap.size ≤ i := fun i hi => by
    rcases n2 with n2 | n2
    · exact h.sn i (n2 ▸ hi)
    · rw [n2] at hi
      injection hi with hi
      omega
  refine ⟨?_, ?_, hb3, fun i hi => hnew2 i (by rw [ob_len A2 _ (st ++ [(k : Int)]).length _ c2]; exact hi), fun i hi => ?_, fun i hi e => ?_, ?_⟩
  · rw [is_append, List.length_append]
    exact hs3
  · rw [is_append, List.length_append]
    exact h3
  · rw [ob_len A3 _ (l.length + 1) _ c3] at hi
    rcases n3 with n3 | n3
    · exact h.ln i (n3 ▸ hi)
    · rw [n3] at hi
      injection hi with hi
      omega
  · rw [ob_len A2 _ (st.length + 1) _ c2] at hi
    rw [ob_len A3 _ (l.length + 1) _ c3] at e
    rcases n3 with n3 | n3
    · exact hap i hi (n3 ▸ e)
    · rw [n3] at e
      injection e with e
      have := h2.lt i hi
      omega
  · have g1 : Fr No w ((wr.setCell ⟨w.heap.size, k, none⟩ (.bool true)).alloc o1) := (h.f.trans' (fr_set _ w.heap.size k _) (fun i hi hlt => by
      have : i = w.heap.size := hi
      omega)).alloc _
    have g2 : Fr No w w2 := g1.trans' f2 fun i hi hlt => by
      have := h.sn i hi
      omega
    exact (g2.alloc o2).trans' f3 fun i hi hlt => by
      have := h.ln i hi
      omega
def SpO (w : World) (P : List (List Int)) (start : List Int) (sv lv : Value) (wr : World) : Prop := ∃ (st l : List Int) (A : Option Addr) (c : Nat) (B : Option Addr) (d : Nat), SpC P start st l ∧ SpM w wr P.length st l A c B d ∧ sv = .slice A st.length c ∧ lv = .slice B l.length d
def SpN (w : World) (P : List (List Int)) (start : List Int) (kv M : Nat) (sv lv jv : Value) (wr : World) : Prop := ∃ (st l : List Int) (A : Option Addr) (c : Nat) (B : Option Addr) (d j : Nat), SpI P start st l (kv : Int) j ∧ SpM w wr P.length st l A c B d ∧ sv = .slice A st.length c ∧ lv = .slice B l.length d ∧ jv = .int .i64 j ∧ j ≤ (gat P kv).length ∧ 2 * (P.length - l.length) + st.length ≤ M
/-- handed back: a row that rises and holds just these -/
def RetX (w : World) (X : Int → Prop) (e : Ending) (w' : World) : Prop := ∃ L : List Int, L.Pairwise (· < ·) ∧ (∀ x, x ∈ L ↔ X x) ∧ RetOwn w 3 1 none L.length (is_ L) e w'
theorem sortI_up {l : List Int} (h : l.Nodup) : (sortI l).Pairwise (· < ·) := by
  have h1 : (sortI l).Pairwise fun x y => decide (x ≤ y) = true := List.pairwise_mergeSort (le := fun x y => decide (x ≤ y)) (by intro a b c; simp only [decide_eq_true_eq]; omega) (by intro a b; simp only [Bool.or_eq_true, decide_eq_true_eq]; omega) l
  have h2 : (sortI l).Nodup := (List.mergeSort_perm l _).nodup_iff.2 h
  refine (h1.and h2).imp fun hab => ?_
  obtain ⟨h3, h4⟩ := hab
  have := of_decide_eq_true h3
  omega
theorem sortI_mem {l : List Int} (x : Int) : x ∈ sortI l ↔ x ∈ l := (List.mergeSort_perm l _).mem_iff
theorem sortI_len (l : List Int) : (sortI l).length = l.length := (List.mergeSort_perm l _).length_eq
end Go.Proofs.Ytcjofakhefpfdaa
