/- The document's Steps. -/
import Derived.Test.YtnphncemghfkbaaGreatFoV
import Derived.Test.YtnphncemghfkbaaGreatClashV
import Derived.Test.YtnphncemghfkbaaGreatQ11
namespace Go.Proofs.YtnphncemghfkbaaGreat
open Go.RowKit Go.My Go.Maps Go.WideMaps
set_option linter.unusedSimpArgs false
set_option linter.unusedVariables false
attribute [local go_sem ↓] Go.wp_at_zero Go.wp_at_succ

theorem each_takeV {w : World} {cells : List Value} {l : List Od} (h : Each (OdR w) 10 cells l) (k : Nat) (hk : k ≤ l.length) : Each (OdR w) 10 (cells.take (k * 10)) (l.take k) := by
  have hlk : (l.take k).length = k := by rw [List.length_take]; omega
  refine ⟨by rw [List.length_take, h.1, hlk]; omega, fun i x hx => ?_⟩
  have hi : i < k := by have := (List.getElem?_eq_some_iff.1 hx).1; omega
  have hx' : l[i]? = some x := by rw [List.getElem?_take, if_pos hi] at hx; exact hx
  have h1 := h.2 i x hx'
  rw [List.drop_take, List.take_take, Nat.min_eq_left (by omega)]
  exact h1
theorem each_dropV {w : World} {cells : List Value} {l : List Od} (h : Each (OdR w) 10 cells l) (k : Nat) (hk : k ≤ l.length) : Each (OdR w) 10 (cells.drop (k * 10)) (l.drop k) := by
  refine ⟨by rw [List.length_drop, h.1, List.length_drop, Nat.sub_mul], fun i x hx => ?_⟩
  rw [List.getElem?_drop] at hx
  have h1 := h.2 _ x hx
  rw [List.drop_drop, show k * 10 + i * 10 = (k + i) * 10 by omega]
  exact h1
theorem each_insV {w : World} {cells cs : List Value} {l : List Od} {x : Od} (h : Each (OdR w) 10 cells l) (hl : cs.length = 10) (hx : OdR w cs x) (k : Nat) (hk : k ≤ l.length) : Each (OdR w) 10 (cells.take (k * 10) ++ cs ++ cells.drop (k * 10)) (insO l k x) := by
  unfold insO
  exact each_append (Each.snocO (each_takeV h k hk) hl hx) (each_dropV h k hk)
theorem ltI_ahead (x y : Od) : aheadI x.cl x.sq y.cl y.sq = true ↔ ltI x.id y.id := by
  unfold aheadI ltI Od.id
  rw [decide_eq_true_eq]
def R4E (w0 : World) (st : List Od) (x : Od) (av : Value) (wr : World) : Prop := ∃ k, k ≤ st.length ∧ av = .int .i64 (k : Nat) ∧ (∀ j (hj : j < st.length), k ≤ j → ltI x.id st[j].id) ∧ (k = 0 ∨ ∃ h : k - 1 < st.length, ¬ ltI x.id st[k - 1].id) ∧ Fr No w0 wr
theorem r2_ins {w0 wi wr w8 : World} {l' st : List Od} {sv rv v8 : Value} {i k : Nat} (hlt : i < l'.length) (hst : OwnO w0 wr sv st) {cells cs : List Value} (hE : Each (OdR w0) 10 cells st) (hcs : cs.length = 10) (hx : OdR w0 cs l'[i]) (hk : k ≤ st.length) (hr : OwnO w0 wr rv (leftL clashB (l'.take i)))
    (hs : st.Pairwise fun a b => ltI a.id b.id) (hm : ∀ o, o ∈ st ↔ o ∈ freeL clashB (l'.take i)) (hl : st.length ≤ i) (hll : (leftL clashB (l'.take i)).length ≤ i) (hf : Fr No wi wr) (hn : Newer wi.heap.size none rv.ownBlock) (hrt : Rt Od.id l')
    (h1 : ∀ j (hj : j < st.length), k ≤ j → ltI l'[i].id st[j].id) (h2 : k = 0 ∨ ∃ h : k - 1 < st.length, ¬ ltI l'[i].id st[k - 1].id) (hno : ((l'.take i).any fun x => clashB x l'[i]) = false)
    (ho : Own w8 47 10 v8 (k + 1 + (st.length - k)) (cells.take (k * 10) ++ cs ++ cells.drop (k * 10))) (hf8 : Fr No wr w8) (hn8 : Newer wr.heap.size none v8.ownBlock) : R2 w0 wi l' v8 rv (.int .i64 ((i + 1 : Nat) : Int)) w8 := by
  have hne : ∀ y ∈ st, y.id ≠ l'[i].id := fun y hy e => by
    have hy1 : y ∈ l'.take i := (rowOf_sub _ _).subset ((hm y).1 hy)
    obtain ⟨j, hj, rfl⟩ := List.mem_take_iff_getElem.1 hy1
    have hj' : j < i := by omega
    have h3 := List.pairwise_iff_getElem.1 hrt j i (by simp; omega) (by simp; omega) hj'
    simp only [List.getElem_map] at h3
    exact h3 e
  have e1 : l'.take (i + 1) = l'.take i ++ [l'[i]] := List.take_succ_eq_append_getElem hlt
  have e2 : leftL clashB (l'.take (i + 1)) = leftL clashB (l'.take i) := by rw [e1, leftL_snoc, hno]; rfl
  have e3 : freeL clashB (l'.take (i + 1)) = freeL clashB (l'.take i) ++ [l'[i]] := by rw [e1, freeL_snoc, hno]; rfl
  have hle := insO_len st k l'[i] hk
  refine ⟨i + 1, insO st k l'[i], hlt, rfl, ⟨_, ?_, each_insV hE hcs hx k hk⟩, by rw [e2]; exact OwnO.noV hr hf8, insO_sorted hs hk h1 h2 hne, fun o => ?_, by omega, by rw [e2]; omega, hf.trans hf8, (Newer.trans (.inl rfl) hn8 hf.size), hn, fun b hb hb2 => ?_⟩
  · rw [hle, show st.length + 1 = k + 1 + (st.length - k) by omega]
    exact ho
  · rw [insO_mem, e3, List.mem_append, List.mem_singleton, hm o]
  · obtain ⟨cells2, hro, _⟩ := hr
    have h3 := hro.lt b hb2
    have h4 := newer_none hn8 b hb
    omega
theorem r2_left {w0 wi wr w6 w7 : World} {l' st : List Od} {sv rv v7 : Value} {i : Nat} (hlt : i < l'.length) (hst : OwnO w0 wr sv st) {cells cs : List Value} (hE : Each (OdR w0) 10 cells (leftL clashB (l'.take i))) (hcs : cs.length = 10) (hx : OdR w0 cs l'[i]) (hr : OwnO w0 wr rv (leftL clashB (l'.take i)))
    (hs : st.Pairwise fun a b => ltI a.id b.id) (hm : ∀ o, o ∈ st ↔ o ∈ freeL clashB (l'.take i)) (hl : st.length ≤ i) (hll : (leftL clashB (l'.take i)).length ≤ i) (hf : Fr No wi wr) (hns : Newer wi.heap.size none sv.ownBlock) (hn : Newer wi.heap.size none rv.ownBlock) (hd : ∀ k, sv.ownBlock = some k → rv.ownBlock ≠ some k) (hno : ((l'.take i).any fun x => clashB x l'[i]) = true)
    (hf6 : Fr No wr w6) (ho : Own w7 47 10 v7 ((leftL clashB (l'.take i)).length + 1) (cells ++ cs)) (hf7 : Fr (AtO rv.ownBlock) w6 w7) (hn7 : v7.ownBlock = rv.ownBlock ∨ v7.ownBlock = some w6.heap.size) : R2 w0 wi l' sv v7 (.int .i64 ((i + 1 : Nat) : Int)) w7 := by
  have e1 : l'.take (i + 1) = l'.take i ++ [l'[i]] := List.take_succ_eq_append_getElem hlt
  have e2 : leftL clashB (l'.take (i + 1)) = leftL clashB (l'.take i) ++ [l'[i]] := by rw [e1, leftL_snoc, hno]; rfl
  have e3 : freeL clashB (l'.take (i + 1)) = freeL clashB (l'.take i) := by rw [e1, freeL_snoc, hno]; rfl
  have hs6 := hf6.size
  obtain ⟨cells2, hso, hsE⟩ := hst
  refine ⟨i + 1, st, hlt, rfl, ⟨cells2, (hso.fr hf6 (fun _ _ h => h)).fr hf7 (fun b hb hb2 => hd b hb hb2), hsE⟩, ⟨cells ++ cs, ?_, by rw [e2]; exact Each.snocO hE hcs hx⟩, hs, fun o => by rw [e3]; exact hm o, by omega, by rw [e2, List.length_append]; simp; omega, fr_no (hf.trans hf6) hn hf7, hns, hn.trans (Newer.of hn7) (hf.trans hf6).size, fun b hb hb2 => ?_⟩
  · rw [e2, List.length_append]
    exact ho
  · rcases hn7 with h | h
    · rw [h] at hb2; exact hd b hb hb2
    · rw [h] at hb2
      injection hb2 with hb2
      have := hso.lt b hb
      omega
theorem r0_next {w w1 w2 wo wr : World} {l l' st : List Od} {D : List (List Od)} {sv rv ov ov' : Value} (hne : l' ≠ []) {vs : List Value} (ho : Own wo 22 1 ov D.length vs) (hoE : ∀ (j : Nat) (v : Value) (s : List Od), vs[j]? = some v → D[j]? = some s → OwnO w wo v s) (hrt : Rt Od.id l') (hsub : ∀ o ∈ l', o ∈ l) (hst : ∀ T, StepsO l' T → StepsO l (D ++ T)) (hlen : l'.length + D.length ≤ l.length) (hfo : Fr No w wo) (hno : Newer w.heap.size none ov.ownBlock)
    (hs : OwnO w wr sv st) (hr : OwnO w wr rv (leftL clashB l')) (hp : st.Pairwise fun a b => ltI a.id b.id) (hm : ∀ o, o ∈ st ↔ o ∈ freeL clashB l') (hf : Fr No wo wr) (hnr : Newer wo.heap.size none rv.ownBlock) (hf1 : Fr No wr w1) (hf2 : Fr (AtO ov.ownBlock) w1 w2) (hn : Own w2 22 1 ov' (D.length + 1) (vs ++ [sv])) (hn2 : ov'.ownBlock = ov.ownBlock ∨ ov'.ownBlock = some w1.heap.size) : R0 w l rv ov' w2 := by
  have hkey : OwnO w w2 rv (leftL clashB l') := by
    obtain ⟨cells, hro, hrE⟩ := hr
    refine ⟨cells, (hro.fr hf1 (fun _ _ h => h)).fr hf2 (fun b hb hb2 => ?_), hrE⟩
    have h1 := ho.lt b hb2
    have h2 := newer_none hnr b hb
    omega
  have hfw : Fr No w w2 := fr_no ((hfo.trans hf).trans hf1) hno hf2
  refine ⟨leftL clashB l', D ++ [st], CurL.of hkey, rowsW_snoc ho hoE (hf.trans hf1) (OwnO.noV hs hf1) hf2 hn, leftL_rt hrt, fun o h => ?_, fun T hT => ?_, ?_, hfw, hno.trans (Newer.of hn2) ((hfo.trans hf).trans hf1).size⟩
  · obtain ⟨n, _, h1⟩ := mem_leftL.1 h
    exact hsub o (lev_mem h1)
  · have := hst _ (StepsR.peel hrt.nodup hne hp hm hT)
    rw [List.append_assoc]
    exact this
  · have := leftL_len (cl := clashB) hne
    rw [List.length_append, List.length_singleton]
    omega
end Go.Proofs.YtnphncemghfkbaaGreat
