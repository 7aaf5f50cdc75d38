/- The document's Steps: what its loops keep. -/
import Derived.Test.YtnphncemghfkbaaGreatFoU
namespace Go.Proofs.YtnphncemghfkbaaGreat
open Go.RowKit Go.My Go.Maps Go.WideMaps
set_option linter.unusedSimpArgs false
set_option linter.unusedVariables false

/-- put in at a place -/
def insO (s : List Od) (at_ : Nat) (x : Od) : List Od := s.take at_ ++ [x] ++ s.drop at_
theorem insO_len (s : List Od) (k : Nat) (x : Od) (h : k ≤ s.length) : (insO s k x).length = s.length + 1 := by
  unfold insO
  simp
  omega
theorem insO_mem (s : List Od) (k : Nat) (x y : Od) : y ∈ insO s k x ↔ y ∈ s ∨ y = x := by
  unfold insO
  rw [List.mem_append, List.mem_append, List.mem_singleton]
  conv => rhs; rw [← List.take_append_drop k s, List.mem_append]
  constructor
  · rintro ((h | h) | h)
    · exact .inl (.inl h)
    · exact .inr h
    · exact .inl (.inr h)
  · rintro ((h | h) | h)
    · exact .inl (.inl h)
    · exact .inr h
    · exact .inl (.inr h)
theorem insO_sorted {s : List Od} {k : Nat} {x : Od} (hs : s.Pairwise fun a b => ltI a.id b.id) (hk : k ≤ s.length) (h1 : ∀ j (hj : j < s.length), k ≤ j → ltI x.id s[j].id) (h2 : k = 0 ∨ ∃ h : k - 1 < s.length, ¬ ltI x.id s[k - 1].id) (hne : ∀ y ∈ s, y.id ≠ x.id) :
    (insO s k x).Pairwise fun a b => ltI a.id b.id := by
  have hbef : ∀ y ∈ s.take k, ltI y.id x.id := by
    intro y hy
    rcases h2 with h2 | ⟨h3, h2⟩
    · subst h2; cases hy
    · have hz : ltI s[k - 1].id x.id := by
        rcases ltI_total (hne s[k - 1] (List.getElem_mem h3)) with h | h
        · exact h
        · exact absurd h h2
      obtain ⟨j, hj, rfl⟩ := List.mem_take_iff_getElem.1 hy
      by_cases hj2 : j = k - 1
      · subst hj2; exact hz
      · exact ltI_trans _ _ _ (List.pairwise_iff_getElem.1 hs j (k - 1) (by omega) h3 (by omega)) hz
  have haft : ∀ y ∈ s.drop k, ltI x.id y.id := by
    intro y hy
    obtain ⟨j, hj, rfl⟩ := List.mem_iff_getElem.1 hy
    rw [List.getElem_drop]
    exact h1 (k + j) (by rw [List.length_drop] at hj; omega) (by omega)
  unfold insO
  rw [List.append_assoc, List.pairwise_append]
  refine ⟨hs.sublist (List.take_sublist _ _), ?_, ?_⟩
  · rw [List.singleton_append, List.pairwise_cons]
    exact ⟨haft, hs.sublist (List.drop_sublist _ _)⟩
  · intro y hy z hz
    rw [List.singleton_append, List.mem_cons] at hz
    rcases hz with rfl | hz
    · exact hbef y hy
    · exact ltI_trans _ _ _ (hbef y hy) (haft z hz)
/-- the list that is still to be done: in memory as it came in, or a row of the call's own -/
structure CurL (w0 wr : World) (lv : Value) (l : List Od) : Prop where
  v : ∃ A c, lv = .slice A l.length c ∧ l.length ≤ c ∧ OdsS w0 wr Tr A l
theorem CurL.no {w0 w w' : World} {lv : Value} {l : List Od} (h : CurL w0 w lv l) (hf : Fr No w w') : CurL w0 w' lv l := by
  obtain ⟨A, c, h1, h2, h3⟩ := h.v
  exact ⟨A, c, h1, h2, h3.fr hf (fun _ _ _ h => h)⟩
theorem CurL.of {w0 w : World} {lv : Value} {l : List Od} (h : OwnO w0 w lv l) : CurL w0 w lv l := by
  obtain ⟨A, c, e, h1, h2⟩ := h.form
  subst e
  exact ⟨A, c, rfl, h1, h.ods.more fun _ _ => trivial⟩
theorem OwnO.noV {w0 w w' : World} {v : Value} {l : List Od} (h : OwnO w0 w v l) (hf : Fr No w w') : OwnO w0 w' v l := by
  obtain ⟨cells, h1, h2⟩ := h
  exact ⟨cells, h1.fr hf (fun _ _ h => h), h2⟩
/-- rows that are done -/
def RowsW (w0 w : World) (ov : Value) (D : List (List Od)) : Prop := ∃ vs, Own w 22 1 ov D.length vs ∧ ∀ (j : Nat) (v : Value) (s : List Od), vs[j]? = some v → D[j]? = some s → OwnO w0 w v s
theorem RowsW.no {w0 w w' : World} {ov : Value} {D : List (List Od)} (h : RowsW w0 w ov D) (hf : Fr No w w') : RowsW w0 w' ov D := by
  obtain ⟨vs, ho, hE⟩ := h
  exact ⟨vs, ho.fr hf (fun _ _ h => h), fun j v s hv hs => OwnO.noV (hE j v s hv hs) hf⟩
theorem RowsW.form {w0 w : World} {ov : Value} {D : List (List Od)} (h : RowsW w0 w ov D) : ∃ A c, ov = .slice A D.length c ∧ D.length ≤ c ∧ c ≤ maxLen := by
  obtain ⟨vs, ho, _⟩ := h
  exact ho.form
theorem rowsW_snoc {w0 w w1 w2 : World} {ov ov' v : Value} {vs : List Value} {D : List (List Od)} {s : List Od} (ho : Own w 22 1 ov D.length vs) (hE : ∀ (j : Nat) (v : Value) (s : List Od), vs[j]? = some v → D[j]? = some s → OwnO w0 w v s) (hf : Fr No w w1) (hr : OwnO w0 w1 v s)
    (hf2 : Fr (AtO ov.ownBlock) w1 w2) (hn : Own w2 22 1 ov' (D.length + 1) (vs ++ [v])) : RowsW w0 w2 ov' (D ++ [s]) := by
  have ho1 := ho.fr hf (fun _ _ h => h)
  have key : ∀ {v : Value} {s : List Od}, OwnO w0 w1 v s → OwnO w0 w2 v s := fun ⟨cells, hro, hrE⟩ => by
    refine ⟨cells, hro.fr hf2 (fun k hk hS => ?_), hrE⟩
    obtain ⟨cur, hc⟩ := hro.blk k hk
    obtain ⟨cur2, hc2⟩ := ho1.blk k hS
    exact hc.ne_ hc2 (by decide) rfl
  have hvl : vs.length = D.length := by have := ho1.1; omega
  refine ⟨vs ++ [v], by rw [List.length_append]; exact hn, fun j u t hu ht => ?_⟩
  by_cases hj : j < D.length
  · rw [List.getElem?_append_left (by omega)] at hu
    rw [List.getElem?_append_left hj] at ht
    exact key (OwnO.noV (hE j u t hu ht) hf)
  · rw [List.getElem?_append_right (by omega)] at hu ht
    have h0 : j - D.length = 0 := by
      rcases Nat.eq_zero_or_pos (j - D.length) with h | h
      · exact h
      · rw [List.getElem?_eq_none (by simp; omega)] at ht; cases ht
    rw [hvl, h0] at hu
    rw [h0] at ht
    simp only [List.getElem?_cons_zero, Option.some.injEq] at hu ht
    subst hu ht
    exact key hr
theorem RowsW.sts {w0 w : World} {A : Option Addr} {c : Nat} {D : List (List Od)} (h : RowsW w0 w (.slice A D.length c) D) (hf : Fr No w0 w) (hn : ∀ s ∈ D, s.length ≤ 1000000) (hl : ∀ s ∈ D, ∀ o ∈ s, o.legs.length ≤ 100000) : StS w A D := by
  obtain ⟨vs, ho, hE⟩ := h
  refine ⟨vs, (ho.rd.lt (by omega)).more fun k hk => hk.2, by have := ho.1; omega, fun i v s hv hs => ?_⟩
  have hrow := hE i v s hv hs
  obtain ⟨A', c', e, h1, h2⟩ := hrow.form
  subst e
  have hmem := List.mem_of_getElem? hs
  obtain ⟨cells, hro, hrE⟩ := hrow
  have hods : OdsS w w (Lt w.heap.size) A' s := by
    have h3 : OdsS w0 w (Lt w.heap.size) A' s := ⟨cells, (hro.rd.lt (by omega)).more fun k hk => hk.2, hrE⟩
    exact h3.up hf
  exact ⟨A', c', rfl, ⟨hods, hn s hmem, h1, hl s hmem⟩⟩
def lenV : Value → Nat
  | .slice _ n _ => n
  | _ => 0
/-- rows done, and what is left -/
def R0 (w0 : World) (l : List Od) (lv ov : Value) (wr : World) : Prop := ∃ l' D, CurL w0 wr lv l' ∧ RowsW w0 wr ov D ∧ Rt Od.id l' ∧ (∀ o ∈ l', o ∈ l) ∧ (∀ T, StepsO l' T → StepsO l (D ++ T)) ∧ l'.length + D.length ≤ l.length ∧ Fr No w0 wr ∧ Newer w0.heap.size none ov.ownBlock
/-- the free ones of the first i, sorted, and the others -/
def R2 (w0 wi : World) (l' : List Od) (sv rv iv : Value) (wr : World) : Prop := ∃ i st, i ≤ l'.length ∧ iv = .int .i64 (i : Nat) ∧ OwnO w0 wr sv st ∧ OwnO w0 wr rv (leftL clashB (l'.take i)) ∧ (st.Pairwise fun a b => ltI a.id b.id) ∧ (∀ o, o ∈ st ↔ o ∈ freeL clashB (l'.take i)) ∧ st.length ≤ i ∧ (leftL clashB (l'.take i)).length ≤ i ∧
  Fr No wi wr ∧ Newer wi.heap.size none sv.ownBlock ∧ Newer wi.heap.size none rv.ownBlock ∧ (∀ k, sv.ownBlock = some k → rv.ownBlock ≠ some k)
def R3 (w0 : World) (l' : List Od) (i : Nat) (hi : i < l'.length) (fv kv : Value) (wr : World) : Prop := ∃ k, k ≤ i ∧ kv = .int .i64 (k : Nat) ∧ fv = .bool (!((l'.take k).any fun x => clashB x l'[i])) ∧ Fr No w0 wr
def R4 (w0 : World) (st : List Od) (x : Od) (av : Value) (wr : World) : Prop := ∃ k, k ≤ st.length ∧ av = .int .i64 (k : Nat) ∧ (∀ j (hj : j < st.length), k ≤ j → ltI x.id st[j].id) ∧ Fr No w0 wr
theorem any_take2 (l' : List Od) (x : Od) (k : Nat) (hk : k < l'.length) : (!((l'.take (k + 1)).any fun y => clashB y x)) = ((!((l'.take k).any fun y => clashB y x)) && !clashB l'[k] x) := by
  rw [List.take_succ_eq_append_getElem hk, List.any_append]
  simp
end Go.Proofs.YtnphncemghfkbaaGreat
