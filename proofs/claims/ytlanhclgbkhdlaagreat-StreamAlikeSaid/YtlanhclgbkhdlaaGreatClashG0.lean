/- An order written into a row of the call's own. -/
import Derived.Test.YtlanhclgbkhdlaaGreatClashF
import Derived.Deep.RegionWith
import Derived.Deep.RegionLaw
namespace Go.Proofs.YtlanhclgbkhdlaaGreat
open Go.RowKit Go.My Go.Maps Go.WideMaps
set_option linter.unusedSimpArgs false
set_option linter.unusedVariables false
attribute [local go_sem ↓] Go.wp_at_zero Go.wp_at_succ

/-- some cells written into a row -/
def putL (cur : List Value) (o : Nat) (cs : List Value) : List Value := cur.take o ++ cs ++ cur.drop (o + cs.length)
theorem putL_length {cur cs : List Value} {o : Nat} (h : o + cs.length ≤ cur.length) : (putL cur o cs).length = cur.length := by
  unfold putL
  rw [List.length_append, List.length_append, List.length_take, List.length_drop]
  omega
theorem putL_get {cur cs : List Value} {o : Nat} (h : o + cs.length ≤ cur.length) (j : Nat) : (putL cur o cs)[j]? = if j < o then cur[j]? else if j < o + cs.length then cs[j - o]? else cur[j]? := by
  unfold putL
  have hl : (cur.take o).length = o := by rw [List.length_take]; omega
  rw [List.append_assoc, List.getElem?_append, hl]
  by_cases h1 : j < o
  · rw [if_pos h1, if_pos h1, List.getElem?_take, if_pos h1]
  · rw [if_neg h1, if_neg h1, List.getElem?_append]
    by_cases h2 : j < o + cs.length
    · rw [if_pos (by omega), if_pos h2]
    · rw [if_neg (by omega), if_neg h2, List.getElem?_drop]
      congr 1
      omega
theorem putL_take {cur cs : List Value} {o n : Nat} (h : o + cs.length ≤ n) (hn : n ≤ cur.length) : (putL cur o cs).take n = putL (cur.take n) o cs := by
  apply List.ext_getElem?
  intro j
  rw [List.getElem?_take, putL_get (by omega), putL_get (by rw [List.length_take]; omega), List.getElem?_take]
  by_cases hj : j < n
  · rw [if_pos hj, if_pos hj]
  · rw [if_neg hj, if_neg hj, if_neg (by omega), if_neg (by omega)]
theorem each_set {α : Type} {R : List Value → α → Prop} {n : Nat} {cells cs : List Value} {l : List α} (h : Each R n cells l) (i : Nat) (hi : i < l.length) (hc : cs.length = n) (x : α) (hx : R cs x) : Each R n (putL cells (i * n) cs) (l.set i x) := by
  have hb : ∀ j, j < l.length → j * n + n ≤ cells.length := fun j hj => by
    rw [h.1]
    have := Nat.mul_le_mul_right n (show j + 1 ≤ l.length from hj)
    rw [Nat.add_mul] at this
    omega
  have hfit : i * n + cs.length ≤ cells.length := by rw [hc]; exact hb i hi
  refine ⟨by rw [putL_length hfit, h.1, List.length_set], fun j y hy => ?_⟩
  rw [List.getElem?_set] at hy
  have key : ∀ m, m < n → ((putL cells (i * n) cs).drop (j * n))[m]? = if j = i then cs[m]? else cells[j * n + m]? := fun m hm => by
    rw [List.getElem?_drop, putL_get hfit]
    by_cases e : j = i
    · subst e
      rw [if_neg (by omega), if_pos (by omega), if_pos rfl]
      congr 1
      omega
    · rw [if_neg e]
      rcases Nat.lt_or_gt_of_ne e with h1 | h1
      · have := Nat.mul_le_mul_right n (show j + 1 ≤ i from h1)
        rw [Nat.add_mul] at this
        rw [if_pos (by omega)]
      · have := Nat.mul_le_mul_right n (show i + 1 ≤ j from h1)
        rw [Nat.add_mul] at this
        rw [if_neg (by omega), if_neg (by omega)]
  by_cases e : i = j
  · subst e
    rw [if_pos rfl, if_pos hi] at hy
    injection hy with hy
    subst hy
    have : ((putL cells (i * n) cs).drop (i * n)).take n = cs := by
      apply List.ext_getElem?
      intro m
      rw [List.getElem?_take]
      by_cases hm : m < n
      · rw [if_pos hm, key m hm, if_pos rfl]
      · rw [if_neg hm, List.getElem?_eq_none (by omega)]
    rw [this]
    exact hx
  · rw [if_neg e] at hy
    have h2 := h.2 j y hy
    have : ((putL cells (i * n) cs).drop (j * n)).take n = (cells.drop (j * n)).take n := by
      apply List.ext_getElem?
      intro m
      rw [List.getElem?_take, List.getElem?_take]
      by_cases hm : m < n
      · rw [if_pos hm, if_pos hm, key m hm, if_neg (fun k => e k.symm), List.getElem?_drop]
      · rw [if_neg hm, if_neg hm]
    rw [this]
    exact h2
theorem blk_setL {w : World} {g o : Nat} {t : TypeId} {cur : Array Value} (h : Blk w g t cur) (ho : o + 10 ≤ cur.size) (a0 a1 a2 a3 a4 a5 a6 a7 a8 a9 : Value) : Blk ((((((((((w.setCell ⟨g, o, none⟩ a0).setCell ⟨g, o + 1, none⟩ a1).setCell ⟨g, o + 2, none⟩ a2).setCell ⟨g, o + 3, none⟩ a3).setCell ⟨g, o + 4, none⟩ a4).setCell ⟨g, o + 5, none⟩ a5).setCell ⟨g, o + 6, none⟩ a6).setCell ⟨g, o + 7, none⟩ a7).setCell ⟨g, o + 8, none⟩ a8).setCell ⟨g, o + 9, none⟩ a9) g t (putL cur.toList o [a0, a1, a2, a3, a4, a5, a6, a7, a8, a9]).toArray := by
  have h0 := h.set_ o a0
  have h1 := h0.set_ (o + 1) a1
  have h2 := h1.set_ (o + 2) a2
  have h3 := h2.set_ (o + 3) a3
  have h4 := h3.set_ (o + 4) a4
  have h5 := h4.set_ (o + 5) a5
  have h6 := h5.set_ (o + 6) a6
  have h7 := h6.set_ (o + 7) a7
  have h8 := h7.set_ (o + 8) a8
  have h9 := h8.set_ (o + 9) a9
  have e : ((((((((((cur.setIfInBounds o a0).setIfInBounds (o + 1) a1).setIfInBounds (o + 2) a2).setIfInBounds (o + 3) a3).setIfInBounds (o + 4) a4).setIfInBounds (o + 5) a5).setIfInBounds (o + 6) a6).setIfInBounds (o + 7) a7).setIfInBounds (o + 8) a8).setIfInBounds (o + 9) a9) = (putL cur.toList o [a0, a1, a2, a3, a4, a5, a6, a7, a8, a9]).toArray := by
    apply Array.ext_getElem?
    intro j
    have hl : o + [a0, a1, a2, a3, a4, a5, a6, a7, a8, a9].length ≤ cur.toList.length := by simpa using ho
    conv => rhs; rw [List.getElem?_toArray, putL_get hl]
    simp only [Array.getElem?_setIfInBounds, Array.size_setIfInBounds, List.length_cons, List.length_nil, Array.getElem?_toList]
    by_cases h1 : j < o
    · rw [if_pos h1]
      repeat rw [if_neg (by omega)]
    · rw [if_neg h1]
      by_cases h2 : j < o + (0 + 1 + 1 + 1 + 1 + 1 + 1 + 1 + 1 + 1 + 1)
      · rw [if_pos h2]
        obtain ⟨d, rfl⟩ : ∃ d, j = o + d := ⟨j - o, by omega⟩
        rw [Nat.add_sub_cancel_left]
        have hd : d = 0 ∨ d = 1 ∨ d = 2 ∨ d = 3 ∨ d = 4 ∨ d = 5 ∨ d = 6 ∨ d = 7 ∨ d = 8 ∨ d = 9 := by omega
        rcases hd with rfl | rfl | rfl | rfl | rfl | rfl | rfl | rfl | rfl | rfl <;> simp <;> omega
      · rw [if_neg h2]
        repeat rw [if_neg (by omega)]
  rw [← e]
  exact h9
theorem fr_setL (w : World) (g o : Nat) (a0 a1 a2 a3 a4 a5 a6 a7 a8 a9 : Value) : Fr (At1 g) w ((((((((((w.setCell ⟨g, o, none⟩ a0).setCell ⟨g, o + 1, none⟩ a1).setCell ⟨g, o + 2, none⟩ a2).setCell ⟨g, o + 3, none⟩ a3).setCell ⟨g, o + 4, none⟩ a4).setCell ⟨g, o + 5, none⟩ a5).setCell ⟨g, o + 6, none⟩ a6).setCell ⟨g, o + 7, none⟩ a7).setCell ⟨g, o + 8, none⟩ a8).setCell ⟨g, o + 9, none⟩ a9) := (((((((((fr_set w g o a0).trans (fr_set _ g (o + 1) a1)).trans (fr_set _ g (o + 2) a2)).trans (fr_set _ g (o + 3) a3)).trans (fr_set _ g (o + 4) a4)).trans (fr_set _ g (o + 5) a5)).trans (fr_set _ g (o + 6) a6)).trans (fr_set _ g (o + 7) a7)).trans (fr_set _ g (o + 8) a8)).trans (fr_set _ g (o + 9) a9)
/-- an order written into a row of the call's own -/
theorem OwnN.put1 {B : Nat} {w : World} {g n c k : Nat} {l : List Od} {o : Od} {vo : Value} (h : OwnN B w (.slice (some ⟨g, 0, none⟩) n c) l) (hk : k < l.length) (hok : o.ok) (hgs : ∀ x ∈ o.legs, x.ok) (hL : LgS w (New B w (some g)) vo o.legs) :
    OwnN B ((((((((((w.setCell ⟨g, k * 10, none⟩ (.int .i64 o.cl)).setCell ⟨g, k * 10 + 1, none⟩ (.int .i64 o.sq)).setCell ⟨g, k * 10 + 2, none⟩ (.int .i64 o.kd)).setCell ⟨g, k * 10 + 3, none⟩ (.string o.acct)).setCell ⟨g, k * 10 + 4, none⟩ (.string o.peer)).setCell ⟨g, k * 10 + 5, none⟩ (.int .i64 o.sum)).setCell ⟨g, k * 10 + 6, none⟩ vo).setCell ⟨g, k * 10 + 7, none⟩ (.int .i64 o.per)).setCell ⟨g, k * 10 + 8, none⟩ (.int .i64 o.hold)).setCell ⟨g, k * 10 + 9, none⟩ (.string o.note)) (.slice (some ⟨g, 0, none⟩) n c) (l.set k o) ∧ Fr (At1 g) w ((((((((((w.setCell ⟨g, k * 10, none⟩ (.int .i64 o.cl)).setCell ⟨g, k * 10 + 1, none⟩ (.int .i64 o.sq)).setCell ⟨g, k * 10 + 2, none⟩ (.int .i64 o.kd)).setCell ⟨g, k * 10 + 3, none⟩ (.string o.acct)).setCell ⟨g, k * 10 + 4, none⟩ (.string o.peer)).setCell ⟨g, k * 10 + 5, none⟩ (.int .i64 o.sum)).setCell ⟨g, k * 10 + 6, none⟩ vo).setCell ⟨g, k * 10 + 7, none⟩ (.int .i64 o.per)).setCell ⟨g, k * 10 + 8, none⟩ (.int .i64 o.hold)).setCell ⟨g, k * 10 + 9, none⟩ (.string o.note)) := by
  have hf := fr_setL w g (k * 10) (.int .i64 o.cl) (.int .i64 o.sq) (.int .i64 o.kd) (.string o.acct) (.string o.peer) (.int .i64 o.sum) vo (.int .i64 o.per) (.int .i64 o.hold) (.string o.note)
  refine ⟨?_, hf⟩
  obtain ⟨cells, ⟨hlen, hown⟩, hE⟩ := h
  rcases hown with ⟨_, h0⟩ | ⟨g', cap, cur, hv, hg, hle, hcm, hcs, ht⟩
  · omega
  injection hv with hv1 hv2 hv3
  injection hv1 with hv1
  injection hv1 with hv1 _
  subst hv1 hv2 hv3
  have hb2 : Blk w g 31 cur := hg
  have hkk : k * 10 + 10 ≤ l.length * 10 := by omega
  have hb3 := blk_setL hb2 (o := k * 10) (by omega) (.int .i64 o.cl) (.int .i64 o.sq) (.int .i64 o.kd) (.string o.acct) (.string o.peer) (.int .i64 o.sum) vo (.int .i64 o.per) (.int .i64 o.hold) (.string o.note)
  generalize ((((((((((w.setCell ⟨g, k * 10, none⟩ (.int .i64 o.cl)).setCell ⟨g, k * 10 + 1, none⟩ (.int .i64 o.sq)).setCell ⟨g, k * 10 + 2, none⟩ (.int .i64 o.kd)).setCell ⟨g, k * 10 + 3, none⟩ (.string o.acct)).setCell ⟨g, k * 10 + 4, none⟩ (.string o.peer)).setCell ⟨g, k * 10 + 5, none⟩ (.int .i64 o.sum)).setCell ⟨g, k * 10 + 6, none⟩ vo).setCell ⟨g, k * 10 + 7, none⟩ (.int .i64 o.per)).setCell ⟨g, k * 10 + 8, none⟩ (.int .i64 o.hold)).setCell ⟨g, k * 10 + 9, none⟩ (.string o.note)) = w' at *
  have hcs2 : (o.cs vo).length = 10 := rfl
  have hfit : k * 10 + (o.cs vo).length ≤ cells.length := by rw [hcs2, hlen]; exact hkk
  have hfit2 : k * 10 + (o.cs vo).length ≤ cur.toList.length := by rw [hcs2, Array.length_toList]; omega
  have hb3 : w'.heap[g]? = some (.cells (putL cur.toList (k * 10) (o.cs vo)).toArray 31 (0, 0)) := hb3
  refine ⟨putL cells (k * 10) (o.cs vo), ⟨by rw [putL_length hfit, hlen, List.length_set], .inr ⟨g, c, _, by rw [List.length_set], hb3, by rw [List.length_set]; exact hle, hcm, ?_, ?_⟩⟩, ?_⟩
  · rw [List.size_toArray, putL_length hfit2, Array.length_toList]
    exact hcs
  · rw [List.length_set]
    show (putL cur.toList (k * 10) (o.cs vo)).take (l.length * 10) = _
    have hcc : cur.toList.length = cur.size := Array.length_toList
    rw [putL_take (by rw [hcs2]; exact hkk) (by omega), ht]
  · have hN : ∀ j, New B w (some g) j → New B w' (some g) j := fun j hj => ⟨hj.1, Nat.lt_of_lt_of_le hj.2.1 hf.size, hj.2.2⟩
    have hS : ∀ j, New B w (some g) j → j < w.heap.size → ¬ At1 g j := fun j hj _ e => hj.2.2 (by rw [show j = g from e])
    exact each_set (R := OdRF w' (New B w' (some g))) (each_imp hE fun cs o ⟨v, k1, k2, k3, k4⟩ => ⟨v, k1, k2, k3, (k4.frS hf hS).more hN⟩) k hk hcs2 o ⟨vo, rfl, hok, hgs, (hL.frS hf hS).more hN⟩
/-- an order of a row of the call's own -/
theorem OwnN.at_ {B : Nat} {w : World} {g n c : Nat} {l : List Od} (h : OwnN B w (.slice (some ⟨g, 0, none⟩) n c) l) (k : Nat) (hk : k < l.length) :
    ∃ v, l[k].ok ∧ (∀ x ∈ l[k].legs, x.ok) ∧ LgS w (New B w (some g)) v l[k].legs ∧ ∀ i u, i < 10 → (l[k].cs v)[i]? = some u → w.cell? ⟨g, k * 10 + i, none⟩ = some u := by
  obtain ⟨cells, ⟨hlen, hown⟩, _, hEc⟩ := h
  rcases hown with ⟨_, h0⟩ | ⟨g', cap, cur, hv, hg, hle, hcm, hcs, ht⟩
  · omega
  injection hv with hv1 hv2 hv3
  injection hv1 with hv1
  injection hv1 with hv1 _
  subst hv1 hv2 hv3
  obtain ⟨v, hc, h1, h2, h3⟩ := hEc k l[k] (List.getElem?_eq_getElem hk)
  refine ⟨v, h1, h2, h3, fun i u hi hu => ?_⟩
  rw [← hc, List.getElem?_take, if_pos hi, List.getElem?_drop] at hu
  rw [cell_of_row w g _ cur 31 (0, 0) hg]
  rw [← ht, List.getElem?_take] at hu
  split at hu
  · simpa using hu
  · cases hu
end Go.Proofs.YtlanhclgbkhdlaaGreat
