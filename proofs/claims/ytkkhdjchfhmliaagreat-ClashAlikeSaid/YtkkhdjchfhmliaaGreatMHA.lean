/- The order of holds: cmp.Compare, cmp.Or, the closure. Holds, sorted. Holds in a slice, sorted. The holds that are wanted, in order. All holds, those of an account. What holds answer: Put, Free, Take. Holds: Put. Holds: Free. Holds: Take. Holds: Copy; what the steps of a script do. -/
import Derived.Test.YtkkhdjchfhmliaaGreatHoldS1
import Derived.Shelf.SlSortCmp.WholeK
import Derived.Test.YtkkhdjchfhmliaaGreatSortH
import Derived.StillTailTactics
import Derived.Shelf.SlSortCmp.NoneTotal
import Derived.Test.YtkkhdjchfhmliaaGreatMVB
import Derived.Test.YtkkhdjchfhmliaaGreatMCI
import Derived.Test.YtkkhdjchfhmliaaGreatCloneH
namespace Go.Proofs.YtkkhdjchfhmliaaGreat
open Go.RowKit Go.My Go.Maps Go.WideMaps
set_option linter.unusedSimpArgs false
set_option linter.unusedVariables false

theorem less_before (x y : List UInt8) : Op.bytesLess x y = bytesBefore x y := by
  rw [bytesLess_eq]
  cases h : bytesBefore x y with
  | true => exact decide_eq_true (before_lt _ _ h)
  | false =>
    refine decide_eq_false fun hlt => ?_
    by_cases e : x = y
    · subst e; exact List.lt_irrefl _ hlt
    · rcases WideAt.bytes_total x y e with h2 | h2
      · rw [h] at h2; cases h2
      · exact List.lt_irrefl _ (List.lt_trans hlt (before_lt _ _ h2))
theorem nanS (s : ByteArray) (w : World) : Calls Tryz.prog 111 #[.string s] w fun e w' => e = .returned (.bool false) ∧ w' = w := by
  go_enter Tryz.func111, Tryz.ntmps111
  go_wp2
  go_ret
  exact ⟨by simp, rfl⟩
theorem nanI (n : Int) (w : World) : Calls Tryz.prog 112 #[.int .i64 n] w fun e w' => e = .returned (.bool false) ∧ w' = w := by
  go_enter Tryz.func112, Tryz.ntmps112
  go_wp2
  go_ret
  exact ⟨by simp, rfl⟩
def cmpI (x y : Int) : Int := if x < y then -1 else if y < x then 1 else 0
theorem compareI (x y : Int) (w : World) : Calls Tryz.prog 99 #[.int .i64 x, .int .i64 y] w fun e w' => e = .returned (.int .i64 (cmpI x y)) ∧ w' = w := by
  go_enter Tryz.func99, Tryz.ntmps99
  go_wp2_with (go_at_call 112; refine (nanI _ _).mono ?_; rintro e w' ⟨rfl, hw⟩; rw [hw])
  all_goals (go_ret; refine ⟨?_, rfl⟩; unfold cmpI; (repeat' split) <;> first | rfl | (exfalso; omega))
def cmpS (a b : List UInt8) : Int := if bytesBefore a b then -1 else if bytesBefore b a then 1 else 0
theorem cmpS_def (x y : ByteArray) : (if Op.bytesLess x.toList y.toList = true then -1 else if x.toList = y.toList then 0 else 1) = cmpS x.data.toList y.data.toList := by
  rw [ByteArray.toList_eq, ByteArray.toList_eq, less_before]
  unfold cmpS
  by_cases h : bytesBefore x.data.toList y.data.toList = true
  · rw [if_pos h, if_pos h]
  · rw [if_neg h, if_neg h]
    by_cases e : x.data.toList = y.data.toList
    · rw [if_pos e, e, WideAt.bytes_irrefl, if_neg (by decide)]
    · rw [if_neg e]
      rcases WideAt.bytes_total _ _ e with h2 | h2
      · exact absurd h2 h
      · rw [if_pos h2]
theorem compareS (x y : ByteArray) (w : World) : Calls Tryz.prog 98 #[.string x, .string y] w fun e w' => e = .returned (.int .i64 (cmpS x.data.toList y.data.toList)) ∧ w' = w := by
  go_enter Tryz.func98, Tryz.ntmps98
  go_wp2_with (go_at_call 111; refine (nanS _ _).mono ?_; rintro e w' ⟨rfl, hw⟩; rw [hw])
  all_goals (go_ret; refine ⟨?_, rfl⟩; rw [← cmpS_def])
  · rename_i h
    rw [if_pos h]
    rfl
  · rename_i h0 _ _ h1
    rw [if_neg (by rw [h0]; decide), if_neg (by simpa using h1)]
    rfl
  · rename_i h0 h1
    rw [if_neg (by rw [h0]; decide), if_pos (by simpa using h1)]
    rfl
def orI (x y : Int) : Int := if x = 0 then y else x
theorem orI_any (g : Nat) (x y : Int) (w : World) (h0 : w.cell? ⟨g, 0, none⟩ = some (.int .i64 x)) (h1 : w.cell? ⟨g, 1, none⟩ = some (.int .i64 y)) : Calls Tryz.prog 97 #[.slice (some ⟨g, 0, none⟩) 2 2] w fun e w' => e = .returned (.int .i64 (orI x y)) ∧ w' = w := by
  go_enter Tryz.func97, Tryz.ntmps97
  by_cases hx : x = 0
  · subst hx
    by_cases hy : y = 0
    · subst hy
      go_wp2
      refine wp_loop_rounds 3 ?_
      rw [rounds_succ]
      go_wp2
      rw [rounds_succ]
      go_wp2
      rw [rounds_succ]
      go_wp2
      go_ret
      exact ⟨rfl, rfl⟩
    · go_wp2
      refine wp_loop_rounds 2 ?_
      rw [rounds_succ]
      go_wp2
      rw [rounds_succ]
      go_wp2
      go_ret
      exact ⟨rfl, rfl⟩
  · go_wp2
    refine wp_loop_rounds 1 ?_
    rw [rounds_succ]
    go_wp2
    go_ret
    exact ⟨by rw [show orI x y = x from if_neg hx]; rfl, rfl⟩
end Go.Proofs.YtkkhdjchfhmliaaGreat

namespace Go.My
open Go Go.RowKit
theorem wp_region_tailH {P : Program} {id : Nat} {Q : Exit → Act → World → Prop} {a : Act} {w : World} {l : List Oper} (n : Nat) (hm : P.follows .mixedOrders = true) (hB : Region.lexTailB .any l.toArray n = true)
    (h : ∀ w', w' = w.drew → wpStill P l.toArray w' (fun a' => wpList P l.toArray Q (l.drop n) a' w') (l.take n) a) : (Code.region id l.toArray true).wp P Q a w :=
  wp_region_still_tail n hm hB (h _ rfl)
end Go.My
namespace Go.Proofs.YtkkhdjchfhmliaaGreat
open Go.RowKit Go.My Go.Maps Go.WideMaps Go.Sort
set_option linter.unusedSimpArgs false
set_option linter.unusedVariables false

def cfH (a b : Hd) : Int := orI (cmpS a.acct b.acct) (cmpI a.num b.num)
instance : Inhabited Hd := ⟨⟨0, [], 0⟩⟩
theorem ltH (a b : Hd) : ltOf cfH a b = hB a b := by
  unfold ltOf cfH orI cmpS cmpI hB
  by_cases h1 : bytesBefore a.acct b.acct = true
  · rw [if_pos h1, if_neg (by decide), h1]; rfl
  · rw [if_neg h1]
    have h1' : bytesBefore a.acct b.acct = false := by simpa using h1
    by_cases h2 : bytesBefore b.acct a.acct = true
    · rw [if_pos h2, if_neg (by decide), h1']
      have : (a.acct == b.acct) = false := by
        rw [beq_eq_false_iff_ne]
        intro e
        rw [e, WideAt.bytes_irrefl] at h2
        cases h2
      rw [this]; rfl
    · rw [if_neg h2, if_pos rfl, h1']
      have : (a.acct == b.acct) = true := by
        rw [beq_iff_eq]
        by_cases e : a.acct = b.acct
        · exact e
        · rcases WideAt.bytes_total _ _ e with h | h
          · exact absurd h h1
          · exact absurd h h2
      rw [this]
      by_cases h3 : a.num < b.num
      · simp [h3]
      · by_cases h4 : b.num < a.num
        · simp [h3, h4]
        · simp [h3, h4]
theorem swoH : SWO (ltOf cfH) where
  irrefl x := by rw [ltH]; exact hB_irrefl rfl rfl
  trans x y z h1 h2 := by rw [ltH] at *; exact hB_trans h1 h2
  ntrans x y z h1 h2 := by
    rw [ltH] at *
    cases h : hB x z with
    | false => rfl
    | true =>
      by_cases e : y.acct = x.acct ∧ y.num = x.num
      · have : hB y z = true := by rw [hB_iff] at h ⊢; rw [e.1, e.2]; exact h
        rw [this] at h2; cases h2
      · rcases hB_total e with g | g
        · have := hB_trans g h
          rw [this] at h2; cases h2
        · rw [g] at h1; cases h1
def encH (h : Hd) : List Value := [.int .i64 h.num, .string ⟨h.acct.toArray⟩, .int .i64 h.sum]

set_option maxRecDepth 100000 in
set_option maxHeartbeats 2000000 in
theorem closure_any (x y : Hd) (W : World) : Calls Tryz.prog 96 #[.agg (encH x).toArray, .agg (encH y).toArray] W fun e w' => e = .returned (.int .i64 (cfH x y)) ∧ ∃ q os', w' = grow (W.drewN q) os' := by
  have hS := Lib.hid (fun W => compareS ⟨x.acct.toArray⟩ ⟨y.acct.toArray⟩ W)
  have hI := Lib.hid (fun W => compareI x.num y.num W)
  have hO := Lib.hid (fun g W => orI_any g (cmpS x.acct y.acct) (cmpI x.num y.num) W)
  have HR : Hid (cfH x y = orI (cmpS x.acct y.acct) (cmpI x.num y.num)) := rfl
  generalize cfH x y = r at *
  unfold encH
  simp only [List.toList_toArray] at hS
  generalize cmpS x.acct y.acct = u at *
  generalize cmpI x.num y.num = v at *
  generalize x.num = xn at *
  generalize (⟨x.acct.toArray⟩ : ByteArray) = xa at *
  generalize x.sum = xs at *
  generalize y.num = yn at *
  generalize (⟨y.acct.toArray⟩ : ByteArray) = ya at *
  generalize y.sum = ys at *
  go_enter Tryz.func96, Tryz.ntmps96
  go_wp2
  refine wp_region_tailH 10 (by kernel_rfl) (by kernel_rfl) fun w6 hw6 => ?_
  have hb0 : Blk w6 W.heap.size 59 #[.int .i64 xn, .string xa, .int .i64 xs] := by
    rw [hw6]
    exact (Blk.new W _ _).fr (((Fr.refl No _).alloc _).drew) (fun h => h)
  have hb1 : Blk w6 (W.heap.size + 1) 59 #[.int .i64 yn, .string ya, .int .i64 ys] := by
    rw [hw6]
    have h := Blk.new (W.alloc (.cells #[.int .i64 xn, .string xa, .int .i64 xs] 59)) 59 #[.int .i64 yn, .string ya, .int .i64 ys]
    rw [World.size_alloc] at h
    exact h.fr ((Fr.refl No _).drew) (fun h => h)
  have x0 : w6.cell? ⟨W.heap.size, 0, none⟩ = some (.int .i64 xn) := hb0.cell 0
  have x1 : w6.cell? ⟨W.heap.size, 1, none⟩ = some (.string xa) := hb0.cell 1
  have y0 : w6.cell? ⟨W.heap.size + 1, 0, none⟩ = some (.int .i64 yn) := hb1.cell 0
  have y1 : w6.cell? ⟨W.heap.size + 1, 1, none⟩ = some (.string ya) := hb1.cell 1
  have HC := Lib.hid (hO.out w6.heap.size (w6.alloc (.cells #[.int .i64 u, .int .i64 v] 3)) ((Blk.new w6 3 #[.int .i64 u, .int .i64 v]).cell 0) ((Blk.new w6 3 #[.int .i64 u, .int .i64 v]).cell 1))
  have HW := Lib.hid hw6
  clear hw6 hb0 hb1
  simp only [List.take_succ_cons, List.take_zero, List.drop_succ_cons, List.drop_zero]
  repeat still_step
  still_call (hS.out w6)
  repeat still_step
  still_call (hI.out w6)
  refine wpStill_nil ?_
  go_wp2_with (go_at_call 97; refine HC.out.mono ?_; rintro e w7 ⟨rfl, rfl⟩)
  go_ret
  refine ⟨by rw [HR.out]; rfl, 1, #[.cells #[.int .i64 xn, .string xa, .int .i64 xs] 59, .cells #[.int .i64 yn, .string ya, .int .i64 ys] 59, .cells #[.int .i64 u, .int .i64 v] 3], ?_⟩
  rw [HW.out]
  rw [alloc_eq_grow, alloc_eq_grow, alloc_eq_grow, grow_grow]
  rfl
theorem cmpLays_any (blk off size : Nat) (w : World) : CmpLays Tryz.prog 96 #[] encH 3 cfH blk off size w :=
  fun _ _ _ _ x y => closure_any x y _
end Go.Proofs.YtkkhdjchfhmliaaGreat

namespace Go.Proofs.YtkkhdjchfhmliaaGreat
open Go.RowKit Go.My Go.Maps Go.WideMaps Go.Sort
set_option linter.unusedSimpArgs false
set_option linter.unusedVariables false

def hds (L : List Hd) : List Value := L.flatMap encH
theorem hds_cons (a : Hd) (L : List Hd) : hds (a :: L) = encH a ++ hds L := rfl
theorem hds_append (L M : List Hd) : hds (L ++ M) = hds L ++ hds M := by unfold hds; rw [List.flatMap_append]
theorem hds_length (L : List Hd) : (hds L).length = L.length * 3 := by
  induction L with
  | nil => rfl
  | cons a L ih => rw [hds_cons, List.length_append, ih, List.length_cons]; simp [encH]; omega
theorem hds_at : ∀ (L : List Hd) (t : Nat), t < L.length * 3 → (hds L)[t]? = (encH (L[t / 3]!))[t % 3]?
  | [], t, h => by simp at h
  | a :: L, t, h => by
    rw [hds_cons]
    by_cases ht : t < 3
    · rw [List.getElem?_append_left (by simpa [encH] using ht), show t / 3 = 0 by omega, show t % 3 = t by omega]
      rfl
    · rw [List.getElem?_append_right (by simp [encH]; omega)]
      rw [show (encH a).length = 3 from rfl, hds_at L (t - 3) (by rw [List.length_cons] at h; omega)]
      rw [show (t - 3) % 3 = t % 3 by omega, show t / 3 = (t - 3) / 3 + 1 by omega]
      rw [List.getElem!_cons_succ]
theorem flat_hds (L : List Hd) : flatK encH 3 L.toArray = (hds L).toArray := by
  refine ext_get! (by rw [size_flatK]; simp [hds_length]) fun t ht => ?_
  have ht' : t < L.length * 3 := by rw [size_flatK] at ht; simpa using ht
  rw [get_flatK _ _ _ _ (by simpa using ht')]
  have h1 := hds_at L t ht'
  have h2 : t < (hds L).length := by rw [hds_length]; exact ht'
  rw [List.getElem?_eq_getElem h2] at h1
  rw [getElem!_pos _ t (by simpa using h2)]
  simp only [List.getElem_toArray]
  have e1 : L.toArray[t / 3]! = L[t / 3]! := by simp
  rw [e1]
  obtain ⟨h3, h4⟩ := List.getElem?_eq_some_iff.1 h1.symm
  rw [List.getElem!_eq_getElem?_getD, List.getElem?_eq_getElem h3, Option.getD_some, h4]
/-- the cells of a block where a row has been laid at its head -/
theorem take_put (F : Array Value) (cur : Array Value) (hl : F.size ≤ cur.size) : (putCells id 0 F cur).toList.take F.size = F.toList := by
  apply List.ext_getElem?
  intro t
  rw [List.getElem?_take]
  by_cases h : t < F.size
  · rw [if_pos h]
    unfold putCells
    simp only [Array.getElem?_toList, Array.getElem?_mapIdx]
    rw [Array.getElem?_eq_getElem (by omega), Array.getElem?_eq_getElem h]
    simp only [Option.map_some]
    rw [if_pos ⟨by omega, by omega⟩]
    simp [h]
  · rw [if_neg h, Array.getElem?_toList, Array.getElem?_eq_none (by omega)]
theorem heap_sortWorld (w : World) (g n : Nat) (d : Array Hd) (os : Array Obj) {cur : Array Value} (hg : w.heap[g]? = some (.cells cur 59 (0, 0))) :
    (sortWorldK encH 3 w g 0 n d os).heap[g]? = some (.cells (putCells id 0 (flatK encH 3 d) cur) 59 (0, 0)) := by
  have hlt := (Array.getElem?_eq_some_iff.1 hg).1
  unfold sortWorldK putRowK putRow
  rw [heap_grow_old _ _ (by show g < (w.heap.modify g _).size; simpa using hlt)]
  show (w.heap.modify g _)[g]? = _
  rw [Array.getElem?_modify, if_pos rfl, hg]
  rfl
theorem fr_sortWorld (w : World) (g n : Nat) (d : Array Hd) (os : Array Obj) : Fr (At1 g) w (sortWorldK encH 3 w g 0 n d os) := by
  refine ⟨rfl, rfl, rfl, ?_, fun k hk hn => ?_⟩
  · have := size_sortWorldK_c encH 3 w g 0 n d os
    exact this
  · unfold sortWorldK putRowK putRow
    rw [heap_grow_old _ _ (by show k < (w.heap.modify g _).size; simpa using hk)]
    show (w.heap.modify g _)[k]? = _
    rw [Array.getElem?_modify, if_neg (fun e : g = k => hn e.symm)]

def SortedH (w : World) (v : Value) (L : List Hd) (e : Ending) (w' : World) : Prop :=
  e = .returned (.tuple #[]) ∧ ∃ L', L'.Perm L ∧ (L'.Pairwise fun a b => hB b a = false) ∧ Own w' 59 3 v L.length (hds L') ∧ Fr (AtO v.ownBlock) w w'
theorem sortH_any (L : List Hd) (v : Value) (w : World) (h : Own w 59 3 v L.length (hds L)) (hl : L.length < 1000000) :
    Calls Tryz.prog 95 #[v, .func (.func 96) #[] #[]] w (SortedH w v L) := by
  rcases h.2 with ⟨rfl, h0⟩ | ⟨g, cap, cur, rfl, hg, hle, hm, hs, ht⟩
  · have hL : L = [] := List.length_eq_zero_iff.1 h0
    subst hL
    have h1 := AnyF.slices_SortFunc_none Tryz.sortH none 0 (.func (.func 96) #[] #[]) w
    refine Calls.mono h1 ?_
    rintro e w' ⟨rfl, rfl⟩
    exact ⟨rfl, [], List.Perm.refl _, List.Pairwise.nil, Own.nil _ _ _, Fr.refl _ _⟩
  · have hlt := (Array.getElem?_eq_some_iff.1 hg).1
    have hcs : L.length * 3 ≤ cur.size := Nat.le_trans (Nat.mul_le_mul_right 3 hle) hs
    have hH : HoldsK encH 3 w g 0 L.toArray := by
      intro j hj
      rw [flat_hds] at hj ⊢
      have hj' : j < (hds L).length := by simpa using hj
      rw [Nat.zero_add, cell_of_row w g j cur _ _ hg]
      constructor
      · have : (cur.toList.take (L.length * 3))[j]? = (hds L)[j]? := by rw [ht]
        rw [List.getElem?_take, if_pos (by rw [hds_length] at hj'; exact hj'), Array.getElem?_toList] at this
        rw [this, List.getElem?_eq_getElem hj', getElem!_pos _ j (by simpa using hj')]
        simp
      · exact Blk.frozen (t := 59) (cs := cur) hg j
    have eg : ∀ args w, (callFunc 96 args).run Tryz.prog w = .ok (.enter 96 args) w := enters_of Tryz.func96 (by kernel_rfl) rfl
    have hcon := AnyQ.slices_SortFunc Tryz.sortH 3 Tryz.isAgg59 Tryz.sizeOf59 encH (fun _ => rfl) (fun x v hv => by simp [encH] at hv; rcases hv with rfl | rfl | rfl <;> rfl) cfH swoH 96 #[] g 0 cap L.toArray w eg (cmpLays_any g 0 _ w) hH hlt (by simp; omega)
    refine Calls.mono hcon ?_
    rintro e w' ⟨rfl, d', n, os, hp, hsd, rfl⟩
    have hsz : d'.size = L.length := by have := hp.1; simpa using this
    have hperm : d'.toList.Perm L := by
      have := hp.2.2
      rw [Array.extract_eq_self_of_le (by rw [hsz]; simp), Array.extract_eq_self_of_le (by simp)] at this
      simpa using this
    refine ⟨rfl, d'.toList, hperm, ?_, ?_, ?_⟩
    · rw [List.pairwise_iff_getElem]
      intro i j hi hj hij
      have hj' : j < d'.size := by simpa using hj
      have hi' : i < d'.size := by simpa using hi
      have := hsd i j (Nat.zero_le _) hij (by simpa [hsz] using hj')
      rw [ltH, getElem!_pos d' j hj', getElem!_pos d' i hi'] at this
      simpa using this
    · have hfl : flatK encH 3 d' = (hds d'.toList).toArray := by
        have := flat_hds d'.toList
        simpa using this
      refine ⟨by rw [hds_length]; simp [hsz], .inr ⟨g, cap, _, rfl, heap_sortWorld w g n d' os hg, hle, hm, ?_, ?_⟩⟩
      · unfold putCells
        simpa using hs
      · have h1 := take_put (flatK encH 3 d') cur (by rw [size_flatK, hsz]; exact hcs)
        rw [size_flatK, hsz] at h1
        rw [h1, hfl]
    · refine (fr_sortWorld w g n d' os).mono fun k _ hk => ?_
      exact congrArg some (show k = g from hk).symm
end Go.Proofs.YtkkhdjchfhmliaaGreat

namespace Go.My
open Go Go.RowKit Go.Maps
/-- sorted, and the same holds: one -/
theorem sorted_rise {L M : List Hd} (hp : L.Perm M) (hM : RiseH M) (hs : L.Pairwise fun a b => hB b a = false) : L = M := by
  refine rise_perm_eq hp ?_ hM
  have h1 : M.Pairwise fun a b => ¬ (a.acct = b.acct ∧ a.num = b.num) := hM.imp fun {a b} h e => by
    rw [hB_irrefl e.1 e.2] at h
    cases h
  have h2 : L.Pairwise fun a b => ¬ (a.acct = b.acct ∧ a.num = b.num) := (hp.pairwise_iff (fun {a b} h e => h ⟨e.1.symm, e.2.symm⟩)).2 h1
  refine (hs.and h2).imp fun {a b} h => ?_
  rcases hB_total h.2 with g | g
  · exact g
  · rw [h.1] at g; cases g
/-- the wanted holds that are still to come -/
def remH (left : Lit → Bool) (q : Hd → Bool) (H : List Hd) : List Hd := H.filter fun h => left (kl h.acct h.num) && q h
theorem remH_all {D : DataW Unit} {H : List Hd} (hR : RepH D H) (hr : RiseH H) (ho : ∀ h ∈ H, h.ok) (q : Hd → Bool) : remH (Maps.has D) q H = H.filter q := by
  unfold remH
  refine List.filter_congr fun h hh => ?_
  rw [hR.has _ _ ⟨(ho h hh).1, (ho h hh).2.1⟩, getH_mem hr hh]
  rfl
theorem same_kl (hi : KlInj) {a b : Hd} (ha : a.ok) (hb : b.ok) : (kl a.acct a.num).sameKey (kl b.acct b.num) = (decide (a.acct = b.acct ∧ a.num = b.num)) := by
  by_cases e : a.acct = b.acct ∧ a.num = b.num
  · rw [e.1, e.2, decide_eq_true (by simp)]
    unfold kl
    show (_ == _) = true
    rw [beq_iff_eq]
  · rw [decide_eq_false e]
    unfold kl
    show (_ == _) = false
    rw [beq_eq_false_iff_ne]
    intro h
    exact e (hi _ _ _ _ ⟨ha.1, ha.2.1⟩ ⟨hb.1, hb.2.1⟩ (congrArg Lit.string h))
theorem remH_step (hi : KlInj) (left : Lit → Bool) (q : Hd → Bool) : ∀ (H : List Hd) (a : Hd), RiseH H → (∀ h ∈ H, h.ok) → a ∈ H → left (kl a.acct a.num) = true →
    (remH left q H).Perm ((if q a then [a] else []) ++ remH (fun z => left z && !z.sameKey (kl a.acct a.num)) q H)
  | c :: r, a, hr, ho, ha, hl => by
    obtain ⟨h1, h2⟩ := List.pairwise_cons.1 hr
    have ho2 : ∀ h ∈ r, h.ok := fun h hh => ho h (List.mem_cons_of_mem _ hh)
    rcases List.mem_cons.1 ha with rfl | ha
    · have hrest : remH (fun z => left z && !z.sameKey (kl a.acct a.num)) q r = remH left q r := by
        unfold remH
        refine List.filter_congr fun b hb => ?_
        show (left (kl b.acct b.num) && !(kl b.acct b.num).sameKey (kl a.acct a.num) && q b) = _
        rw [same_kl hi (ho2 b hb) (ho a List.mem_cons_self)]
        have : ¬ (b.acct = a.acct ∧ b.num = a.num) := fun e => by
          have := h1 b hb
          rw [hB_irrefl e.1.symm e.2.symm] at this
          cases this
        rw [decide_eq_false this]
        simp
      have e2 : remH (fun z => left z && !z.sameKey (kl a.acct a.num)) q (a :: r) = remH left q r := by
        rw [← hrest]
        unfold remH
        rw [List.filter_cons, if_neg]
        show ¬ (left (kl a.acct a.num) && !(kl a.acct a.num).sameKey (kl a.acct a.num) && q a) = true
        rw [same_kl hi (ho a List.mem_cons_self) (ho a List.mem_cons_self)]
        simp
      rw [e2]
      unfold remH
      rw [List.filter_cons, hl, Bool.true_and]
      by_cases hq : q a = true
      · rw [if_pos hq, if_pos hq]; exact List.Perm.refl _
      · rw [if_neg hq, if_neg hq]; exact List.Perm.refl _
    · have ih := remH_step hi left q r a h2 ho2 ha hl
      have hne : (kl c.acct c.num).sameKey (kl a.acct a.num) = false := by
        rw [same_kl hi (ho c List.mem_cons_self) (ho2 a ha)]
        refine decide_eq_false fun e => ?_
        have := h1 a ha
        rw [hB_irrefl e.1 e.2] at this
        cases this
      have e1 : ∀ f : Lit → Bool, remH f q (c :: r) = (if f (kl c.acct c.num) && q c then [c] else []) ++ remH f q r := fun f => by
        unfold remH
        rw [List.filter_cons]
        split <;> rfl
      rw [e1, e1, hne]
      simp only [Bool.not_false, Bool.and_true]
      refine (List.Perm.append_left _ ih).trans ?_
      rw [← List.append_assoc, ← List.append_assoc]
      exact List.Perm.append_right _ List.perm_append_comm
/-- an entry is a hold -/
theorem RepH.entry {D : DataW Unit} {H : List Hd} (hR : RepH D H) {a : List UInt8} {n c : Int} (hk : KeyOk a n) (hat : ∀ zd, D.atKey (kl a n) zd = .lit (.int .i64 c)) : (⟨n, a, c⟩ : Hd) ∈ H := by
  have h1 := hat .nil
  rw [hR.look a n hk] at h1
  cases hg : getH H a n with
  | none => rw [hg] at h1; cases h1
  | some x =>
    rw [hg] at h1
    simp only [DataW.lit.injEq, Lit.int.injEq, true_and] at h1
    obtain ⟨h2, h3, h4⟩ := getH_some hg
    obtain ⟨xn, xa, xs⟩ := x
    simp only at h1 h3 h4
    subst h1 h3 h4
    exact h2
end Go.My
namespace Go.Proofs.YtkkhdjchfhmliaaGreat
open Go.RowKit Go.My Go.Maps Go.WideMaps Go.Sort
set_option linter.unusedSimpArgs false
set_option linter.unusedVariables false

theorem elH : El Tryz.prog 57 59 3 32 := ⟨Tryz.underlying57, by
  have h : (Tryz.prog.info? 59).map (fun i => (i.zero, i.size, i.bytes)) = some (some (.agg #[.int .i64 0, .string ⟨#[]⟩, .int .i64 0]), 3, 32) := by kernel_rfl
  obtain ⟨i, hi, hz, hs, hb⟩ := info_parts h
  exact ⟨i, _, hi, hz, hs, hb, rfl⟩, by omega⟩
def ThRel (w : World) (m r : Nat) (D : DataW Unit) (q : Hd → Bool) (H : List Hd) (lv : Value) (wr : World) : Prop :=
  ∃ (left : Lit → Bool) (cnt : Nat) (L : List Hd), wr.ranges Tryz.prog 114 hdR m r H.length D left cnt ∧ Own wr 59 3 lv L.length (hds L) ∧ Fr No w wr ∧ Newer w.heap.size none lv.ownBlock ∧ w.heap.size ≤ r ∧ (L ++ remH left q H).Perm (H.filter q)

set_option maxRecDepth 100000 in
set_option maxHeartbeats 2000000 in
theorem those_any (p m : Nat) (H : List Hd) (w : World) (h : HdS w p m H) (hH : H.length < 10000) (f : Nat) (bs : Array Value) (q : Hd → Bool)
    (hf : ∀ args W, (callFunc f args).run Tryz.prog W = .ok (.enter f args) W)
    (hc : ∀ W, Fr No w W → ∀ (s : ByteArray) (n c : Int), KeyOk s.data.toList n → Calls Tryz.prog f (#[.agg #[.string s, .int .i64 n]] ++ bs) W fun e w' => e = .returned (.bool (q ⟨n, s.data.toList, c⟩)) ∧ Fr No W w') :
    Calls Tryz.prog 59 #[.pointer (some ⟨p, 0, none⟩), .func (.func f) #[] bs] w (RetOwn w 59 3 none (H.filter q).length (hds (H.filter q))) := by
  have c0 := h.1.cell 0
  simp only [List.getElem?_toArray, List.getElem?_cons_zero] at c0
  have hml := h.2.lt
  obtain ⟨D, hD, hR⟩ := h.2.own
  have HM := Lib.hid h.2
  have HR := Lib.hid hR
  have HD := Lib.hid hD
  have HC := Lib.hid hc
  clear hR h hD hc
  go_enter Tryz.func59, Tryz.ntmps59
  go_wp2_with (at_range; refine wpList_range_own _ rfl (.tmp 13) 95 rfl 114 2 keyedH Tryz.underlying95 hdR m H.length D rfl HD.out ?_; intro w0 hrg0 hg0 hs0)
  go_frame
  have hmr : m ≠ w.heap.size := by omega
  go_loopw [5] (fun lv wr => ThRel w m w.heap.size D q H lv wr) (fun _ wr => wr.rangeLeft m w.heap.size)
  case atStart => exact ⟨_, _, [], hrg0, Own.nil _ _ _, fr_grown0 hg0, .inl rfl, Nat.le_refl _, by rw [remH_all HR.out HM.out.rise HM.out.ok]; exact List.Perm.refl _⟩
  case round =>
    obtain ⟨left, cnt, L, hrg, hown, hfr, hnew, hr, hperm⟩ := hrel
    have HP := Lib.hid hperm
    have HFR := Lib.hid hfr
    have HRG := Lib.hid hrg
    have HOWN := Lib.hid hown
    have HNEW := Lib.hid hnew
    clear hfr hrg hown hnew hperm
    have HNR := Lib.hid (own_ne_range HOWN.out HRG.out)
    go_wp2_with (at_next; refine wpList_next_ranges _ rfl (.tmp 14) rfl 114 keyedH hdR (fun x : ByteArray × Int => .agg #[.string x.1, .int .i64 x.2]) (Value.int .i64) (fun key kl hk => by obtain ⟨s, n, hs, _⟩ := key_inv hk; exact ⟨⟨s, n⟩, hs⟩) (fun v y hv => by obtain ⟨c, hc, _⟩ := plainElem_int_inv Tryz.underlying2 hv; exact ⟨c, hc⟩) m w.heap.size H.length D left cnt rfl HRG.out ?_ ?_)
    · intro hc0 hl0
      have hrem : remH left q H = [] := by
        unfold remH
        refine List.filter_eq_nil_iff.2 fun a _ => ?_
        rw [hl0]
        simp
      have hp2 := HP.out
      rw [hrem, List.append_nil] at hp2
      have hlen : L.length < 1000000 := by
        have h1 := hp2.length_eq
        have h2 := List.length_filter_le q H
        omega
      have HS := Lib.hid (sortH_any L _ wr HOWN.out hlen)
      have HPP := Lib.hid hp2
      clear hrem hp2 hl0 hc0
      go_wp2_with (go_at_call 95; refine HS.out.mono ?_; rintro e w5 ⟨rfl, L', hpL, hsL, hown5, hf5⟩)
      go_ret
      have e1 : L' = H.filter q := sorted_rise (hpL.trans HPP.out) (rise_filter HM.out.rise q) hsL
      have e2 : L.length = (H.filter q).length := HPP.out.length_eq
      rw [e1, e2] at hown5
      exact ⟨_, rfl, hown5, (fr_no HFR.out HNEW.out hf5).mono fun _ _ h => False.elim h, HNEW.out⟩
    · intro s n c kl1 yd yp w1 cnt1 hkey hlk hv hat hrg1 hlt hg1 hs1 hen
      obtain ⟨s', n', he, hk, rfl⟩ := key_inv hkey
      simp only [Value.agg.injEq, Array.mk.injEq, List.cons.injEq, Value.string.injEq, Value.int.injEq, and_true, true_and] at he
      obtain ⟨rfl, rfl⟩ := he
      obtain ⟨c', hc1, hy, hw⟩ := plainElem_int_inv Tryz.underlying2 hv
      simp only [Value.int.injEq, true_and] at hc1
      subst hc1
      simp only [Prod.mk.injEq] at hy
      obtain ⟨rfl, rfl⟩ := hy
      have hmem := HR.out.entry hk hat
      have HPM := Lib.hid (remH_step klInj left q H ⟨n, s.data.toList, c⟩ HM.out.rise HM.out.ok hmem hlk)
      have HRG1 := Lib.hid hrg1
      have HF1 := Lib.hid (fr_grown hg1)
      have HO1 := Lib.hid (HOWN.out.fr (fr_grown hg1) HNR.out)
      have HLT := Lib.hid hlt
      have HK := Lib.hid hk
      have hg0 : Fr No w w1 := by
        have h1 := HFR.out.size
        exact HFR.out.trans' HF1.out (fun i hi hlt => by have : i = w.heap.size := hi; omega)
      have HF1' := Lib.hid hg0
      have hb1 := fun a b => Blk.new w1 114 #[a, b]
      clear hmr hkey hlk hv hat hrg1 hlt hg1 hs1 hmem hk hw hg0
      have hlen : L.length < 10000 := by
        have h1 := HP.out.length_eq
        have h2 := List.length_filter_le q H
        rw [List.length_append] at h1
        omega
      by_cases hq : q ⟨n, s.data.toList, c⟩ = true
      · rw [if_pos hq] at HPM
        go_wp2_with fail
        refine (HC.out _ (HF1'.out.alloc _) s n c HK.out).mono ?_
        rintro e w3 ⟨rfl, hf3⟩
        have hb3 : Blk w3 w1.heap.size 114 #[.string s, .int .i64 n] := (hb1 _ _).fr hf3 (fun h => h)
        have HO3 := Lib.hid ((HO1.out.alloc (.cells #[.string s, .int .i64 n] 114)).fr hf3 (fun _ _ h => h))
        have HF3 : Hid (Fr No w1 w3) := ((Fr.refl No w1).alloc _).trans hf3
        have HRG3 := Lib.hid (ranges_fr HRG1.out HF3.out (fun h => h) (fun h => h))
        have z0 : w3.cell? ⟨w1.heap.size, 0, none⟩ = some (.string s) := hb3.cell 0
        have z1 : w3.cell? ⟨w1.heap.size, 1, none⟩ = some (.int .i64 n) := hb3.cell 1
        clear hf3 hb3
        rw [hq]
        go_wp2_with (at_builtin; refine wpList_app _ rfl (.tmp 23) (.tmp 30) 57 57 rfl elH (HO3.out.alloc _) rfl (Src.of_new w3.heap.size (heap_alloc_new w3 _) Tryz.underlying57 rfl (by simp [Value.oneCell'])) rfl (by unfold maxLen; omega) (by omega) ?_; intro v1 w4 hown4 hfr4 hnew4)
        have HF4 := Lib.hid (Fr.trans ((Fr.refl (AtO u5.ownBlock) w3).alloc _) hfr4)
        have HO4 := Lib.hid hown4
        have HN4 := Lib.hid hnew4
        clear hown4 hfr4 hnew4
        have HRG4 := Lib.hid (ranges_fr HRG3.out HF4.out (fun h => own_ne_map HOWN.out HRG.out.owns _ h rfl) (fun h => HNR.out _ h rfl))
        go_roundw
        case rel =>
          refine ⟨_, cnt1, L ++ [⟨n, s.data.toList, c⟩], HRG4.out, ?_, ?_, ?_, Nat.le_refl _, ?_⟩
          · have h3 := HO4.out
            rw [List.length_append, hds_append]
            exact h3
          · exact fr_no (HF1'.out.trans HF3.out) HNEW.out HF4.out
          · have h1 := HF1'.out.size
            have h2 := HF3.out.size
            exact HNEW.out.trans (Newer.of HN4.out) (by simp; omega)
          · refine List.Perm.trans ?_ HP.out
            rw [List.append_assoc]
            exact List.Perm.append_left _ HPM.out.symm
        case measure =>
          rw [HRG4.out.left_eq, HRG.out.left_eq]
          exact HLT.out
      · rw [if_neg hq] at HPM
        have hq : q ⟨n, s.data.toList, c⟩ = false := by simpa using hq
        go_wp2_with fail
        refine (HC.out _ (HF1'.out.alloc _) s n c HK.out).mono ?_
        rintro e w3 ⟨rfl, hf3⟩
        have hb3 : Blk w3 w1.heap.size 114 #[.string s, .int .i64 n] := (hb1 _ _).fr hf3 (fun h => h)
        have HO3 := Lib.hid ((HO1.out.alloc (.cells #[.string s, .int .i64 n] 114)).fr hf3 (fun _ _ h => h))
        have HF3 : Hid (Fr No w1 w3) := ((Fr.refl No w1).alloc _).trans hf3
        have HRG3 := Lib.hid (ranges_fr HRG1.out HF3.out (fun h => h) (fun h => h))
        have z0 : w3.cell? ⟨w1.heap.size, 0, none⟩ = some (.string s) := hb3.cell 0
        have z1 : w3.cell? ⟨w1.heap.size, 1, none⟩ = some (.int .i64 n) := hb3.cell 1
        clear hf3 hb3
        rw [hq]
        go_wp2
        go_roundw
        case rel =>
          refine ⟨_, cnt1, L, HRG3.out, HO3.out, HF1'.out.trans HF3.out, HNEW.out, Nat.le_refl _, ?_⟩
          refine List.Perm.trans ?_ HP.out
          exact List.Perm.append_left _ HPM.out.symm
        case measure =>
          rw [HRG3.out.left_eq, HRG.out.left_eq]
          exact HLT.out
end Go.Proofs.YtkkhdjchfhmliaaGreat

namespace Go.Proofs.YtkkhdjchfhmliaaGreat
open Go.RowKit Go.My Go.Maps Go.WideMaps Go.Sort
set_option linter.unusedSimpArgs false
set_option linter.unusedVariables false

theorem allLit (s : ByteArray) (n : Int) (w : World) : Calls Tryz.prog 60 #[.agg #[.string s, .int .i64 n]] w fun e w' => e = .returned (.bool true) ∧ Fr No w w' := by
  go_enter Tryz.func60, Tryz.ntmps60
  go_wp2
  go_ret
  exact ⟨rfl, (Fr.refl _ _).alloc _⟩
theorem ofLit (s a : ByteArray) (n : Int) (g : Nat) (w : World) (hg : w.cell? ⟨g, 0, none⟩ = some (.string a)) : Calls Tryz.prog 131 #[.agg #[.string s, .int .i64 n], .pointer (some ⟨g, 0, none⟩)] w fun e w' => e = .returned (.bool (s.data.toList == a.data.toList)) ∧ Fr No w w' := by
  have hgl := World.block_lt_of_cell? w _ hg
  simp only at hgl
  go_enter Tryz.func131, Tryz.ntmps131
  go_wp2
  go_ret
  refine ⟨?_, (Fr.refl _ _).alloc _⟩
  rw [← ByteArray.toList_eq, ← ByteArray.toList_eq]
  rfl
theorem thoseNil (v : Value) (w : World) : Calls Tryz.prog 59 #[.pointer none, v] w fun e w' => e = .returned (.slice none 0 0) ∧ w' = w := by
  go_enter Tryz.func59, Tryz.ntmps59
  go_wp2
  go_ret
  exact ⟨rfl, rfl⟩
theorem allH_any (p m : Nat) (H : List Hd) (w : World) (h : HdS w p m H) (hH : H.length < 10000) :
    Calls Tryz.prog 37 #[.pointer (some ⟨p, 0, none⟩)] w (RetOwn w 59 3 none H.length (hds H)) := by
  have h1 := those_any p m H w h hH 60 #[] (fun _ => true) (enters_of Tryz.func60 (by kernel_rfl) rfl) (fun W _ s n c _ => allLit s n W)
  rw [List.filter_eq_self.2 (fun _ _ => rfl)] at h1
  have H1 := Lib.hid h1
  clear h1
  go_enter Tryz.func37, Tryz.ntmps37
  go_wp2_with (go_at_call 59; refine H1.out.mono ?_; rintro e w1 ⟨v, rfl, hr⟩)
  go_ret
  exact ⟨v, rfl, hr⟩
theorem allH_nil (w : World) : Calls Tryz.prog 37 #[.pointer none] w fun e w' => e = .returned (.slice none 0 0) ∧ w' = w := by
  have H1 := Lib.hid (fun v => thoseNil v w)
  go_enter Tryz.func37, Tryz.ntmps37
  go_wp2_with (go_at_call 59; refine (H1.out _).mono ?_; rintro e w1 ⟨rfl, rfl⟩)
  go_ret
  exact ⟨rfl, rfl⟩
theorem ofH_any (p m : Nat) (H : List Hd) (s : ByteArray) (w : World) (h : HdS w p m H) (hH : H.length < 10000) :
    Calls Tryz.prog 107 #[.pointer (some ⟨p, 0, none⟩), .string s] w (RetOwn w 59 3 none (ofH H s.data.toList).length (hds (ofH H s.data.toList))) := by
  have h1 := those_any p m H (w.alloc (.cells #[.string s] 9)) (h.no ((Fr.refl _ _).alloc _)) hH 131 #[.pointer (some ⟨w.heap.size, 0, none⟩)] (fun h => h.acct == s.data.toList) (enters_of Tryz.func131 (by kernel_rfl) rfl) (fun W hW x n c _ => ofLit x s n w.heap.size W (((Blk.new w 9 #[.string s]).fr hW (fun h => h)).cell 0))
  have H1 := Lib.hid h1
  clear h1
  go_enter Tryz.func107, Tryz.ntmps107
  go_wp2_with (go_at_call 59; refine H1.out.mono ?_; rintro e w1 ⟨v, rfl, hr, hf, hn⟩)
  go_ret
  exact ⟨v, rfl, hr, ((Fr.refl _ _).alloc _).trans hf, Newer.trans (.inl rfl) hn (by simp)⟩
theorem ofH_nil (s : ByteArray) (w : World) : Calls Tryz.prog 107 #[.pointer none, .string s] w fun e w' => e = .returned (.slice none 0 0) ∧ Fr No w w' := by
  have H1 := Lib.hid (fun v w => thoseNil v w)
  go_enter Tryz.func107, Tryz.ntmps107
  go_wp2_with (go_at_call 59; refine (H1.out _ _).mono ?_; rintro e w1 ⟨rfl, rfl⟩)
  go_ret
  exact ⟨rfl, (Fr.refl _ _).alloc _⟩
end Go.Proofs.YtkkhdjchfhmliaaGreat

namespace Go.Proofs.YtkkhdjchfhmliaaGreat
open Go.RowKit Go.My Go.Maps
set_option linter.unusedSimpArgs false
set_option linter.unusedVariables false

abbrev asdE (S : List Ac) (nm : List UInt8) (x : Int) : Int := actE (fun a => asideE a x) S nm
abbrev asdS (S : List Ac) (nm : List UInt8) (x : Int) : List Ac := actS (fun a => asideE a x) (fun a => asideA a x) S nm
def putE (S : List Ac) (H : List Hd) (n : Int) (a : List UInt8) (x : Int) : Int :=
  if n < 1 ∨ 9999 < n ∨ x ≤ 0 then 1 else if (getH H a n).isSome then 7 else if 8 ≤ (ofH H a).length then 5 else asdE S a x
def putSS (S : List Ac) (H : List Hd) (n : Int) (a : List UInt8) (x : Int) : List Ac := if putE S H n a x = 0 then asdS S a x else S
def putHH (S : List Ac) (H : List Hd) (n : Int) (a : List UInt8) (x : Int) : List Hd := if putE S H n a x = 0 then insH ⟨n, a, x⟩ H else H
def freeE (S : List Ac) (H : List Hd) (a : List UInt8) (n : Int) : Int := match getH H a n with | none => 6 | some h => asdE S a (-h.sum)
def freeSS (S : List Ac) (H : List Hd) (a : List UInt8) (n : Int) : List Ac := match getH H a n with | none => S | some h => asdS S a (-h.sum)
def freeHH (S : List Ac) (H : List Hd) (a : List UInt8) (n : Int) : List Hd := if freeE S H a n = 0 then delH H a n else H
def legsT (a b : ByteArray) (x : Int) : List Lg := [⟨a, -x⟩, ⟨b, x⟩]
def takeE (S : List Ac) (H : List Hd) (a : ByteArray) (n : Int) (b : ByteArray) (x : Int) : Int :=
  match getH H a.data.toList n with
  | none => 6
  | some h => if x < 1 ∨ h.sum < x then 13 else if asdE S a.data.toList (-h.sum) = 0 then checkE (asdS S a.data.toList (-h.sum)) (legsT a b x) else asdE S a.data.toList (-h.sum)
def takeSS (S : List Ac) (H : List Hd) (a : ByteArray) (n : Int) (b : ByteArray) (x : Int) : List Ac :=
  if takeE S H a n b x = 0 then makeS (asdS S a.data.toList (-(sumO (getH H a.data.toList n)))) (legsT a b x) else S
def takeHH (S : List Ac) (H : List Hd) (a : ByteArray) (n : Int) (b : ByteArray) (x : Int) : List Hd := if takeE S H a n b x = 0 then delH H a.data.toList n else H

/-- what is held is free to be given, or lent -/
def Snd (S : List Ac) : Prop := ∀ a ∈ S, -a.lim ≤ a.hv - a.st
def PosH (H : List Hd) : Prop := ∀ h ∈ H, 1 ≤ h.num ∧ h.num ≤ 9999 ∧ 0 < h.sum ∧ h.sum ≤ 9223372036854775807 ∧ h.acct.length ≤ 8
theorem inv_aside {S : List Ac} (h : Inv S) (nm : List UInt8) (x : Int) : Inv (asdS S nm x) := inv_act h _ _ _ (ok_aside x) (fun a => asideA_name a x)
/-- released, and reserved again -/
theorem aside_backH {S : List Ac} (hI : Inv S) (hS : Snd S) {nm : List UInt8} {x : Int} (hx : 0 < x ∧ x ≤ 9223372036854775807) (h0 : asdE S nm (-x) = 0) :
    asdE (asdS S nm (-x)) nm x = 0 ∧ asdS (asdS S nm (-x)) nm x = S := by
  unfold asdE actE at h0
  cases hq : getA S nm with
  | none => rw [hq] at h0; cases h0
  | some a =>
    rw [hq] at h0
    simp only at h0
    obtain ⟨hm, hnm⟩ := getA_some hq
    have e1 : asdS S nm (-x) = putA { a with st := a.st + -x } S := by
      unfold asdS actS
      rw [hq]
      simp only
      rw [if_pos h0]
      unfold asideA
      rw [if_pos h0]
    have hg1 : getA (putA { a with st := a.st + -x } S) nm = some { a with st := a.st + -x } := by
      have := getA_put_same S { a with st := a.st + -x }
      rw [← hnm]
      exact this
    have ha := hI.ok a hm
    have hs := hS a hm
    have h1 : asideE { a with st := a.st + -x } x = 0 := by
      unfold asideE
      unfold OkA In64 at ha
      rw [if_pos (by unfold In64; simp only; omega)]
      rw [if_neg (by
        unfold freeB
        rintro ⟨_, h⟩
        simp only [decide_eq_false_iff_not] at h
        omega), if_neg (by simp only; omega)]
    have h2 : asideA { a with st := a.st + -x } x = a := by
      unfold asideA
      rw [if_pos h1]
      have : a.st + -x + x = a.st := by omega
      simp only [this]
    rw [e1]
    constructor
    · unfold asdE actE
      rw [hg1]
      exact h1
    · unfold asdS actS
      rw [hg1]
      simp only
      rw [if_pos h1, h2]
      exact put_back hI.rise hq rfl

/-- what a deed on holds hands back -/
def At2 (m k : Nat) : Nat → Prop := fun i => i = m ∨ i = k
structure HRet (p m ph mh : Nat) (n : Int) (S : List Ac) (H : List Hd) (w : World) (e : Ending) (w' : World) : Prop where
  ret : e = .returned (.int .i64 n)
  ch : ChS w' p m S
  hd : HdS w' ph mh H
  fr : Fr (At2 m mh) w w'
theorem HdS.at1 {w w' : World} {p m q k : Nat} {S : List Ac} {H : List Hd} (h : HdS w q k H) (hc : ChS w p m S) (hne : k ≠ m) (hf : Fr (At1 m) w w') : HdS w' q k H :=
  h.fr hf (fun e => hc.2.ne_ h.1 (show q = m from e).symm) (fun e => hne e)
theorem ChS.at1H {w w' : World} {p m q k : Nat} {S : List Ac} {H : List Hd} (hc : ChS w p m S) (h : HdS w q k H) (hne : k ≠ m) (hf : Fr (At1 k) w w') : ChS w' p m S :=
  hc.fr hf (fun e => h.2.ne_ hc.1 (show p = k from e).symm) (fun e => hne (show m = k from e).symm)
end Go.Proofs.YtkkhdjchfhmliaaGreat

namespace Go.Proofs.YtkkhdjchfhmliaaGreat
open Go.RowKit Go.My Go.Maps
set_option linter.unusedSimpArgs false
set_option linter.unusedVariables false

set_option maxRecDepth 100000 in
set_option maxHeartbeats 4000000 in
theorem put_any (p m ph mh : Nat) (S : List Ac) (H : List Hd) (s : ByteArray) (n x : Int) (w : World) (hc : ChS w p m S) (hI : Inv S) (hh : HdS w ph mh H) (hH : H.length < 1000) (hne : mh ≠ m) (hs : s.size ≤ maxLen) (hn : In64 n) (hx : In64 x) :
    Calls Tryz.prog 90 #[.pointer (some ⟨ph, 0, none⟩), .pointer (some ⟨p, 0, none⟩), .agg #[.int .i64 n, .string s, .int .i64 x]] w (HRet p m ph mh (putE S H n s.data.toList x) (putSS S H n s.data.toList x) (putHH S H n s.data.toList x) w) := by
  have HB : Hid (∀ W, Fr No w W → HRet p m ph mh (putE S H n s.data.toList x) (putSS S H n s.data.toList x) (putHH S H n s.data.toList x) w (.returned (.int .i64 (putE S H n s.data.toList x))) W ∨ putE S H n s.data.toList x = 0) := fun W hW => by
    by_cases h0 : putE S H n s.data.toList x = 0
    · exact .inr h0
    · refine .inl ⟨rfl, ?_, ?_, hW.mono fun _ _ h => False.elim h⟩
      · unfold putSS; rw [if_neg h0]; exact hc.no hW
      · unfold putHH; rw [if_neg h0]; exact hh.no hW
  have HERR : Hid (∀ W k, Fr No w W → putE S H n s.data.toList x = k → k ≠ 0 → HRet p m ph mh (putE S H n s.data.toList x) (putSS S H n s.data.toList x) (putHH S H n s.data.toList x) w (.returned (.int .i64 k)) W) := fun W k hW h1 h2 => by
    rcases HB.out W hW with h | h
    · rw [← h1]; exact h
    · exact absurd (h1.symm.trans h) h2
  clear HB
  by_cases h1 : n < 1
  · have HE : Hid (putE S H n s.data.toList x = 1) := by show _ = _; unfold putE; rw [if_pos (.inl h1)]
    clear hc hh hI hs hn hx
    go_enter Tryz.func90, Tryz.ntmps90
    go_wp2
    go_ret
    exact HERR.out _ 1 ((Fr.refl _ _).alloc _) HE.out (by decide)
  by_cases h2 : 9999 < n
  · have HE : Hid (putE S H n s.data.toList x = 1) := by show _ = _; unfold putE; rw [if_pos (.inr (.inl h2))]
    clear hc hh hI hs hn hx
    go_enter Tryz.func90, Tryz.ntmps90
    go_wp2
    go_ret
    exact HERR.out _ 1 ((Fr.refl _ _).alloc _) HE.out (by decide)
  by_cases h3 : x ≤ 0
  · have HE : Hid (putE S H n s.data.toList x = 1) := by show _ = _; unfold putE; rw [if_pos (.inr (.inr h3))]
    clear hc hh hI hs hn hx
    go_enter Tryz.func90, Tryz.ntmps90
    go_wp2
    go_ret
    exact HERR.out _ 1 ((Fr.refl _ _).alloc _) HE.out (by decide)
  have HS := Lib.hid hs
  have HN := Lib.hid hn
  have HX := Lib.hid hx
  have HE0 : Hid (putE S H n s.data.toList x = if (getH H s.data.toList n).isSome then 7 else if 8 ≤ (ofH H s.data.toList).length then 5 else asdE S s.data.toList x) := by
    show _ = _
    unfold putE
    rw [if_neg (by omega)]
  have HC := Lib.hid hc
  have HH := Lib.hid hh
  have HI := Lib.hid hI
  have HLK : Hid (∀ W, Fr No w W → (Instr.lookup 95 (.map (some mh)) (.agg #[.string s, .int .i64 n]) true).run Tryz.prog W = .ok (.tuple #[.int .i64 (sumO (getH H s.data.toList n)), .bool (getH H s.data.toList n).isSome]) W) := fun W hW => (hh.no hW).2.look s n hs hn
  clear hc hh hI hs hn hx
  cases hg : getH H s.data.toList n with
  | some y =>
    have HE : Hid (putE S H n s.data.toList x = 7) := by show _ = _; rw [HE0.out, hg]; rfl
    rw [hg] at HLK
    simp only [Option.isSome_some] at HLK
    clear hg
    go_enter Tryz.func90, Tryz.ntmps90
    go_wp2
    refine wp_region_tailH 10 (by kernel_rfl) (by kernel_rfl) fun w6 hw6 => ?_
    have hf6 : Fr No w w6 := by rw [hw6]; exact (((Fr.refl No w).alloc _).alloc _).drew
    have p0 : w6.cell? ⟨ph, 0, none⟩ = some (.map (some mh)) := (HH.out.no hf6).1.cell 0
    have hk6 : Blk w6 (w.heap.size + 1) 114 #[.string s, .int .i64 n] := by
      rw [hw6]
      have h := Blk.new (w.alloc (.cells #[.int .i64 n, .string s, .int .i64 x] 59)) 114 #[.string s, .int .i64 n]
      rw [World.size_alloc] at h
      exact h
    have hb6 : Blk w6 w.heap.size 59 #[.int .i64 n, .string s, .int .i64 x] := by
      rw [hw6]
      exact (Blk.new w _ _).fr (((Fr.refl No _).alloc _).drew) (fun h => h)
    have k0 : w6.cell? ⟨w.heap.size + 1, 0, none⟩ = some (.string s) := hk6.cell 0
    have k1 : w6.cell? ⟨w.heap.size + 1, 1, none⟩ = some (.int .i64 n) := hk6.cell 1
    have hlk := HLK.out w6 hf6
    have HF6 := Lib.hid hf6
    clear hw6 hf6 hk6 hb6
    simp only [List.take_succ_cons, List.take_zero, List.drop_succ_cons, List.drop_zero]
    repeat still_step
    refine wpStill_nil ?_
    go_wp2
    go_ret
    exact HERR.out _ 7 HF6.out HE.out (by decide)
  | none =>
    rw [hg] at HLK HE0
    simp only [Option.isSome_none, Bool.false_eq_true, if_false, sumO] at HLK HE0
    have HG := Lib.hid hg
    clear hg
    go_enter Tryz.func90, Tryz.ntmps90
    go_wp2
    refine wp_region_tailH 10 (by kernel_rfl) (by kernel_rfl) fun w6 hw6 => ?_
    have hf6 : Fr No w w6 := by rw [hw6]; exact (((Fr.refl No w).alloc _).alloc _).drew
    have p0 : w6.cell? ⟨ph, 0, none⟩ = some (.map (some mh)) := (HH.out.no hf6).1.cell 0
    have hk6 : Blk w6 (w.heap.size + 1) 114 #[.string s, .int .i64 n] := by
      rw [hw6]
      have h := Blk.new (w.alloc (.cells #[.int .i64 n, .string s, .int .i64 x] 59)) 114 #[.string s, .int .i64 n]
      rw [World.size_alloc] at h
      exact h
    have hb6 : Blk w6 w.heap.size 59 #[.int .i64 n, .string s, .int .i64 x] := by
      rw [hw6]
      exact (Blk.new w _ _).fr (((Fr.refl No _).alloc _).drew) (fun h => h)
    have k0 : w6.cell? ⟨w.heap.size + 1, 0, none⟩ = some (.string s) := hk6.cell 0
    have k1 : w6.cell? ⟨w.heap.size + 1, 1, none⟩ = some (.int .i64 n) := hk6.cell 1
    have hlk := HLK.out w6 hf6
    have HF6 := Lib.hid hf6
    have hof := ofH_any ph mh H s w6 (HH.out.no hf6) (by omega)
    have x0 : w6.cell? ⟨w.heap.size, 0, none⟩ = some (.int .i64 n) := hb6.cell 0
    have x1 : w6.cell? ⟨w.heap.size, 1, none⟩ = some (.string s) := hb6.cell 1
    have HB6 := Lib.hid hb6
    have HK6 := Lib.hid hk6
    have HOF := Lib.hid hof
    clear hw6 hf6 hk6 hb6 hof
    simp only [List.take_succ_cons, List.take_zero, List.drop_succ_cons, List.drop_zero]
    repeat still_step
    refine wpStill_nil ?_
    go_wp2_with fail
    refine HOF.out.mono ?_
    rintro e w7 ⟨v, rfl, hown, hf7, hn7⟩
    obtain ⟨A7, c7, rfl, hl7, hc7⟩ := hown.form
    have HF7 := Lib.hid (HF6.out.trans (hf7.mono fun _ _ h => by simp [AtO] at h))
    have hf67 : Fr No w6 w7 := hf7.mono fun _ _ h => by simp [AtO] at h
    have hb7 := HB6.out.fr hf67 (fun h => h)
    have hk7 := HK6.out.fr hf67 (fun h => h)
    have HB7 := Lib.hid hb7
    have HK7 := Lib.hid hk7
    clear x0 x1 k0 k1 p0 hlk hown hf7 hn7 hf67 hl7 hc7
    by_cases h8 : 8 ≤ (ofH H s.data.toList).length
    · have HE : Hid (putE S H n s.data.toList x = 5) := by show _ = _; rw [HE0.out, if_pos h8]
      have h8' : (8 : Int) ≤ ((ofH H s.data.toList).length : Int) := by omega
      clear h8
      go_wp2
      go_ret
      exact HERR.out _ 5 HF7.out HE.out (by decide)
    · have HE1 : Hid (putE S H n s.data.toList x = asdE S s.data.toList x) := by show _ = _; rw [HE0.out, if_neg h8]
      have h8' : ¬ (8 : Int) ≤ ((ofH H s.data.toList).length : Int) := by omega
      have HAS := Lib.hid (aside_any p m S s x w7 (HC.out.no HF7.out) HS.out HI.out.len HI.out.ok HX.out)
      have x1 : w7.cell? ⟨w.heap.size, 1, none⟩ = some (.string s) := hb7.cell 1
      have x2 : w7.cell? ⟨w.heap.size, 2, none⟩ = some (.int .i64 x) := hb7.cell 2
      clear h8 hb7 hk7
      go_wp2_with fail
      refine HAS.out.mono ?_
      rintro e w8 ⟨rfl, hc8, hf8⟩
      clear x1 x2
      have hpl := HC.out.1.lt
      have hml := HC.out.2.lt
      have HH8 := Lib.hid ((HH.out.no HF7.out).at1 (HC.out.no HF7.out) hne hf8)
      have HF8 : Hid (Fr (At2 m mh) w w8) := (HF7.out.mono fun _ _ h => False.elim h).trans (hf8.mono fun _ _ h => .inl h)
      have hb8 := HB7.out.fr hf8 (fun e => by have : w.heap.size = m := e; omega)
      have hk8 := HK7.out.fr hf8 (fun e => by have : w.heap.size + 1 = m := e; omega)
      have HC8 := Lib.hid hc8
      clear hc8 hf8 hpl hml
      by_cases h0 : asdE S s.data.toList x = 0
      · have HP : Hid (putE S H n s.data.toList x = 0) := by show _ = _; rw [HE1.out, h0]
        have h0' := h0
        unfold asdE at h0'
        have hnil := fun W => run_eql_map_nil (P := Tryz.prog) W 95 _ _ (some mh) Tryz.underlying95
        have p8 : w8.cell? ⟨ph, 0, none⟩ = some (.map (some mh)) := HH8.out.1.cell 0
        have HB8 := Lib.hid hb8
        have HK8 := Lib.hid hk8
        rw [h0']
        clear h0 h0' hb8 hk8
        go_wp2
        refine wp_region_tailH 7 (by kernel_rfl) (by kernel_rfl) fun w9 hw9 => ?_
        have hf9 : Fr No w8 w9 := by rw [hw9]; exact (Fr.refl No w8).drew
        have p9 : w9.cell? ⟨ph, 0, none⟩ = some (.map (some mh)) := (HH8.out.no hf9).1.cell 0
        have k0 : w9.cell? ⟨w.heap.size + 1, 0, none⟩ = some (.string s) := (HK8.out.fr hf9 (fun h => h)).cell 0
        have k1 : w9.cell? ⟨w.heap.size + 1, 1, none⟩ = some (.int .i64 n) := (HK8.out.fr hf9 (fun h => h)).cell 1
        have x2 : w9.cell? ⟨w.heap.size, 2, none⟩ = some (.int .i64 x) := (HB8.out.fr hf9 (fun h => h)).cell 2
        have HF9 := Lib.hid hf9
        clear hw9 hf9 p8
        simp only [List.take_succ_cons, List.take_zero, List.drop_succ_cons, List.drop_zero]
        repeat still_step
        refine wpStill_nil ?_
        go_wp2_with (at_mapUpdate; refine wpList_putH _ rfl (.tmp 74) (.tmp 75) (.tmp 77) rfl rfl (HH8.out.no HF9.out).2 s n x rfl rfl ⟨by have h := HS.out; simpa using h, HN.out, HX.out⟩ HG.out (by unfold maxLen; omega) ?_; intro w10 hm10 hf10)
        go_ret
        refine ⟨by rw [HP.out]; rfl, ?_, ?_, HF8.out.trans ((HF9.out.mono fun _ _ h => False.elim h).trans (hf10.mono fun _ _ h => .inr h))⟩
        · unfold putSS
          rw [if_pos HP.out]
          exact (HC8.out.no HF9.out).at1H (HH8.out.no HF9.out) hne hf10
        · unfold putHH
          rw [if_pos HP.out]
          exact ⟨(HH8.out.no HF9.out).1.fr hf10 (fun e => (HH8.out).ne_ (show ph = mh from e).symm), hm10⟩
      · have HP : Hid (putE S H n s.data.toList x ≠ 0) := by show _ ≠ 0; rw [HE1.out]; exact h0
        have hc8 := HC8.out
        rw [act_err h0] at hc8
        have HC8' := Lib.hid hc8
        have h0' : (asdE S s.data.toList x != 0) = true := by rw [bne_iff_ne]; exact h0
        unfold asdE at h0'
        have HEQ : Hid (actE (fun a => asideE a x) S s.data.toList = putE S H n s.data.toList x) := HE1.out.symm
        generalize actE (fun a => asideE a x) S s.data.toList = ev at *
        clear h0 hb8 hk8 hc8
        go_wp2
        go_ret
        refine ⟨by rw [← HEQ.out]; rfl, ?_, ?_, HF8.out⟩
        · unfold putSS
          rw [if_neg HP.out]
          exact HC8'.out
        · unfold putHH
          rw [if_neg HP.out]
          exact HH8.out
end Go.Proofs.YtkkhdjchfhmliaaGreat

namespace Go.Proofs.YtkkhdjchfhmliaaGreat
open Go.RowKit Go.My Go.Maps
set_option linter.unusedSimpArgs false
set_option linter.unusedVariables false

set_option maxRecDepth 100000 in
set_option maxHeartbeats 4000000 in
theorem free_any (p m ph mh : Nat) (S : List Ac) (H : List Hd) (s : ByteArray) (n : Int) (w : World) (hc : ChS w p m S) (hI : Inv S) (hh : HdS w ph mh H) (hP : PosH H) (hH : H.length < 1000) (hne : mh ≠ m) (hs : s.size ≤ maxLen) (hn : In64 n) :
    Calls Tryz.prog 92 #[.pointer (some ⟨ph, 0, none⟩), .pointer (some ⟨p, 0, none⟩), .string s, .int .i64 n] w (HRet p m ph mh (freeE S H s.data.toList n) (freeSS S H s.data.toList n) (freeHH S H s.data.toList n) w) := by
  have hlk := hh.2.look s n hs hn
  have p0 : w.cell? ⟨ph, 0, none⟩ = some (.map (some mh)) := hh.1.cell 0
  have HS := Lib.hid hs
  have HN := Lib.hid hn
  have HC := Lib.hid hc
  have HH := Lib.hid hh
  have HI := Lib.hid hI
  clear hc hh hI hs hn
  cases hg : getH H s.data.toList n with
  | none =>
    have HE : Hid (freeE S H s.data.toList n = 6) := by show _ = _; unfold freeE; rw [hg]
    have HE2 : Hid (freeSS S H s.data.toList n = S) := by show _ = _; unfold freeSS; rw [hg]
    rw [hg] at hlk
    simp only [Option.isSome_none, sumO] at hlk
    clear hg
    go_enter Tryz.func92, Tryz.ntmps92
    go_wp2
    go_ret
    refine ⟨by rw [HE.out]; rfl, by rw [HE2.out]; exact HC.out, ?_, Fr.refl _ _⟩
    unfold freeHH
    rw [HE.out, if_neg (by decide)]
    exact HH.out
  | some y =>
    obtain ⟨-, -, hy1, hy2, -⟩ := hP y (getH_some hg).1
    have HE : Hid (freeE S H s.data.toList n = asdE S s.data.toList (-y.sum)) := by show _ = _; unfold freeE; rw [hg]
    have HE2 : Hid (freeSS S H s.data.toList n = asdS S s.data.toList (-y.sum)) := by show _ = _; unfold freeSS; rw [hg]
    rw [hg] at hlk
    simp only [Option.isSome_some, sumO] at hlk
    have HAS := Lib.hid (aside_any p m S s (-y.sum) w HC.out HS.out HI.out.len HI.out.ok (by unfold In64; omega))
    generalize y.sum = t at *
    clear hg hP
    go_enter Tryz.func92, Tryz.ntmps92
    go_wp2_with fail
    refine HAS.out.mono ?_
    rintro e w8 ⟨rfl, hc8, hf8⟩
    have HH8 := Lib.hid (HH.out.at1 HC.out hne hf8)
    have HF8 : Hid (Fr (At2 m mh) w w8) := hf8.mono fun _ _ h => .inl h
    have HC8 := Lib.hid hc8
    clear hc8 hf8 hlk p0
    by_cases h0 : asdE S s.data.toList (-t) = 0
    · have HP : Hid (freeE S H s.data.toList n = 0) := by show _ = _; rw [HE.out, h0]
      have h0' := h0
      unfold asdE at h0'
      have p8 : w8.cell? ⟨ph, 0, none⟩ = some (.map (some mh)) := HH8.out.1.cell 0
      rw [h0']
      clear h0 h0'
      go_wp2_with (at_delete; refine wpList_delH _ rfl (.tmp 42) (.tmp 45) rfl rfl HH8.out.2 s n rfl HS.out HN.out ?_; intro w10 hm10 hf10)
      go_ret
      refine ⟨by rw [HP.out]; rfl, ?_, ?_, HF8.out.trans (hf10.mono fun _ _ h => .inr h)⟩
      · rw [HE2.out]
        exact HC8.out.at1H HH8.out hne hf10
      · unfold freeHH
        rw [if_pos HP.out]
        exact ⟨HH8.out.1.fr hf10 (fun e => HH8.out.ne_ (show ph = mh from e).symm), hm10⟩
    · have HP : Hid (freeE S H s.data.toList n ≠ 0) := by show _ ≠ 0; rw [HE.out]; exact h0
      have h0' : (asdE S s.data.toList (-t) != 0) = true := by rw [bne_iff_ne]; exact h0
      unfold asdE at h0'
      have HEQ : Hid (actE (fun a => asideE a (-t)) S s.data.toList = freeE S H s.data.toList n) := HE.out.symm
      generalize actE (fun a => asideE a (-t)) S s.data.toList = ev at *
      clear h0
      go_wp2
      go_ret
      refine ⟨by rw [← HEQ.out]; rfl, by rw [HE2.out]; exact HC8.out, ?_, HF8.out⟩
      unfold freeHH
      rw [if_neg HP.out]
      exact HH8.out
theorem free_nil (c s n : Value) (w : World) : Calls Tryz.prog 92 #[.pointer none, c, s, n] w fun e w' => e = .returned (.int .i64 1) ∧ w' = w := by
  go_enter Tryz.func92, Tryz.ntmps92
  go_wp2
  go_ret
  exact ⟨rfl, rfl⟩
theorem free_nilC (a : Addr) (s n : Value) (w : World) : Calls Tryz.prog 92 #[.pointer (some a), .pointer none, s, n] w fun e w' => e = .returned (.int .i64 1) ∧ w' = w := by
  go_enter Tryz.func92, Tryz.ntmps92
  go_wp2
  go_ret
  exact ⟨rfl, rfl⟩
theorem take_nil (c s n b x : Value) (w : World) : Calls Tryz.prog 91 #[.pointer none, c, s, n, b, x] w fun e w' => e = .returned (.int .i64 1) ∧ w' = w := by
  go_enter Tryz.func91, Tryz.ntmps91
  go_wp2
  go_ret
  exact ⟨rfl, rfl⟩
theorem take_nilC (a : Addr) (s n b x : Value) (w : World) : Calls Tryz.prog 91 #[.pointer (some a), .pointer none, s, n, b, x] w fun e w' => e = .returned (.int .i64 1) ∧ w' = w := by
  go_enter Tryz.func91, Tryz.ntmps91
  go_wp2
  go_ret
  exact ⟨rfl, rfl⟩
theorem put_nil (c : Value) (n x : Int) (s : ByteArray) (w : World) : Calls Tryz.prog 90 #[.pointer none, c, .agg #[.int .i64 n, .string s, .int .i64 x]] w fun e w' => e = .returned (.int .i64 1) ∧ Fr No w w' := by
  go_enter Tryz.func90, Tryz.ntmps90
  go_wp2
  go_ret
  exact ⟨rfl, (Fr.refl _ _).alloc _⟩
theorem put_nilC (a : Addr) (n x : Int) (s : ByteArray) (w : World) : Calls Tryz.prog 90 #[.pointer (some a), .pointer none, .agg #[.int .i64 n, .string s, .int .i64 x]] w fun e w' => e = .returned (.int .i64 1) ∧ Fr No w w' := by
  go_enter Tryz.func90, Tryz.ntmps90
  go_wp2
  go_ret
  exact ⟨rfl, (Fr.refl _ _).alloc _⟩
end Go.Proofs.YtkkhdjchfhmliaaGreat

namespace Go.Proofs.YtkkhdjchfhmliaaGreat
open Go.RowKit Go.My Go.Maps
set_option linter.unusedSimpArgs false
set_option linter.unusedVariables false

theorem makeT_any (p m : Nat) (S : List Ac) (a b : ByteArray) (x : Int) (w : World) (h : ChS w p m S) (hI : Inv S) (ha : a.size ≤ maxLen) (hb : b.size ≤ maxLen) (hx : 0 < x ∧ x ≤ 9223372036854775807) :
    Calls Tryz.prog 88 #[.pointer (some ⟨p, 0, none⟩), .slice (some ⟨w.heap.size, 0, none⟩) 2 2] (w.alloc (.cells #[.string a, .int .i64 (-x), .string b, .int .i64 x] 81)) (DeedsE p m (checkE S (legsT a b x)) (makeS S (legsT a b x)) (w.alloc (.cells #[.string a, .int .i64 (-x), .string b, .int .i64 x] 81))) := by
  have hbk := Blk.new w 81 #[.string a, .int .i64 (-x), .string b, .int .i64 x]
  have hml := h.2.lt
  refine make_any p m S (fun k => k = w.heap.size) _ 2 [.string a, .int .i64 (-x), .string b, .int .i64 x] (legsT a b x) _ (h.no ((Fr.refl _ _).alloc _)) hI ⟨rfl, fun _ => ⟨_, rfl, rfl, fun j u hu => ?_⟩⟩ (fun k hk => ?_) ⟨rfl, fun i g hg => ?_⟩ (by simp [legsT])
  · rw [add_zero, hbk.cell j]
    simpa using hu
  · subst hk
    exact ⟨by simp, by omega⟩
  · have hlt : i < 2 := by have := (List.getElem?_eq_some_iff.1 hg).1; simpa [legsT] using this
    match i, hlt with
    | 0, _ =>
      simp only [legsT, List.getElem?_cons_zero, Option.some.injEq] at hg
      subst hg
      exact ⟨rfl, ha, by unfold In64; simp only; omega⟩
    | 1, _ =>
      simp only [legsT, List.getElem?_cons_succ, List.getElem?_cons_zero, Option.some.injEq] at hg
      subst hg
      exact ⟨rfl, hb, by unfold In64; simp only; omega⟩

set_option maxRecDepth 100000 in
set_option maxHeartbeats 4000000 in
theorem take_any (p m ph mh : Nat) (S : List Ac) (H : List Hd) (s b : ByteArray) (n x : Int) (w : World) (hc : ChS w p m S) (hI : Inv S) (hSn : Snd S) (hh : HdS w ph mh H) (hP : PosH H) (hH : H.length < 1000) (hne : mh ≠ m) (hs : s.size ≤ maxLen) (hb : b.size ≤ maxLen) (hn : In64 n) (hx : In64 x) :
    Calls Tryz.prog 91 #[.pointer (some ⟨ph, 0, none⟩), .pointer (some ⟨p, 0, none⟩), .string s, .int .i64 n, .string b, .int .i64 x] w (HRet p m ph mh (takeE S H s n b x) (takeSS S H s n b x) (takeHH S H s n b x) w) := by
  have hlk := hh.2.look s n hs hn
  have p0 : w.cell? ⟨ph, 0, none⟩ = some (.map (some mh)) := hh.1.cell 0
  have HS := Lib.hid hs
  have HBZ := Lib.hid hb
  have HN := Lib.hid hn
  have HX := Lib.hid hx
  have HC := Lib.hid hc
  have HH := Lib.hid hh
  have HI := Lib.hid hI
  have HERR : Hid (∀ W k, ChS W p m S → HdS W ph mh H → Fr (At2 m mh) w W → takeE S H s n b x = k → k ≠ 0 → HRet p m ph mh (takeE S H s n b x) (takeSS S H s n b x) (takeHH S H s n b x) w (.returned (.int .i64 k)) W) := fun W k h1 h2 h3 h4 h5 => by
    rw [← h4] at h5 ⊢
    refine ⟨rfl, ?_, ?_, h3⟩
    · unfold takeSS; rw [if_neg h5]; exact h1
    · unfold takeHH; rw [if_neg h5]; exact h2
  clear hc hh hI hs hn hb hx
  cases hg : getH H s.data.toList n with
  | none =>
    have HE : Hid (takeE S H s n b x = 6) := by show _ = _; unfold takeE; rw [hg]
    rw [hg] at hlk
    simp only [Option.isSome_none, sumO] at hlk
    clear hg
    go_enter Tryz.func91, Tryz.ntmps91
    go_wp2
    go_ret
    exact HERR.out _ 6 HC.out HH.out (Fr.refl _ _) HE.out (by decide)
  | some y =>
    obtain ⟨-, -, hy1, hy2, -⟩ := hP y (getH_some hg).1
    have HE0 : Hid (takeE S H s n b x = if x < 1 ∨ y.sum < x then 13 else if asdE S s.data.toList (-y.sum) = 0 then checkE (asdS S s.data.toList (-y.sum)) (legsT s b x) else asdE S s.data.toList (-y.sum)) := by show _ = _; unfold takeE; rw [hg]
    have HE2 : Hid (takeSS S H s n b x = if takeE S H s n b x = 0 then makeS (asdS S s.data.toList (-y.sum)) (legsT s b x) else S) := by show _ = _; unfold takeSS; rw [hg]; rfl
    rw [hg] at hlk
    simp only [Option.isSome_some, sumO] at hlk
    have HAS := Lib.hid (aside_any p m S s (-y.sum) w HC.out HS.out HI.out.len HI.out.ok (by unfold In64; omega))
    have HBACK : Hid (asdE S s.data.toList (-y.sum) = 0 → asdE (asdS S s.data.toList (-y.sum)) s.data.toList y.sum = 0 ∧ asdS (asdS S s.data.toList (-y.sum)) s.data.toList y.sum = S) := aside_backH HI.out hSn ⟨hy1, hy2⟩
    generalize y.sum = t at *
    clear hg hP
    by_cases h1 : x < 1
    · have HE : Hid (takeE S H s n b x = 13) := by show _ = _; rw [HE0.out, if_pos (.inl h1)]
      go_enter Tryz.func91, Tryz.ntmps91
      go_wp2
      go_ret
      exact HERR.out _ 13 HC.out HH.out (Fr.refl _ _) HE.out (by decide)
    by_cases h2 : t < x
    · have HE : Hid (takeE S H s n b x = 13) := by show _ = _; rw [HE0.out, if_pos (.inr h2)]
      go_enter Tryz.func91, Tryz.ntmps91
      go_wp2
      go_ret
      exact HERR.out _ 13 HC.out HH.out (Fr.refl _ _) HE.out (by decide)
    have HE1 : Hid (takeE S H s n b x = if asdE S s.data.toList (-t) = 0 then checkE (asdS S s.data.toList (-t)) (legsT s b x) else asdE S s.data.toList (-t)) := by show _ = _; rw [HE0.out, if_neg (by omega)]
    clear HE0
    go_enter Tryz.func91, Tryz.ntmps91
    go_wp2_with fail
    refine HAS.out.mono ?_
    rintro e w8 ⟨rfl, hc8, hf8⟩
    have HH8 := Lib.hid (HH.out.at1 HC.out hne hf8)
    have HF8 : Hid (Fr (At2 m mh) w w8) := hf8.mono fun _ _ h => .inl h
    have HC8 := Lib.hid hc8
    clear hc8 hf8 hlk p0
    by_cases h0 : asdE S s.data.toList (-t) = 0
    · obtain ⟨hb1, hb2⟩ := HBACK.out h0
      have HE : Hid (takeE S H s n b x = checkE (asdS S s.data.toList (-t)) (legsT s b x)) := by show _ = _; rw [HE1.out, if_pos h0]
      have HI1 := Lib.hid (inv_aside HI.out s.data.toList (-t))
      have HMK := Lib.hid (makeT_any p m (asdS S s.data.toList (-t)) s b x w8 HC8.out HI1.out HS.out HBZ.out ⟨by omega, by omega⟩)
      have h0' := h0
      unfold asdE at h0'
      rw [h0']
      clear h0 h0'
      generalize asdS S s.data.toList (-t) = S1 at *
      go_wp2_with fail
      refine HMK.out.mono ?_
      rintro e w9 ⟨rfl, hc9, hf9⟩
      have hf9' : Fr (At1 m) w8 w9 := ((Fr.refl _ _).alloc _).trans hf9
      have HH9 := Lib.hid (HH8.out.at1 HC8.out hne hf9')
      have HC9 := Lib.hid hc9
      have HF9 : Hid (Fr (At2 m mh) w w9) := HF8.out.trans (hf9'.mono fun _ _ h => .inl h)
      clear hc9 hf9 hf9'
      by_cases h3 : checkE S1 (legsT s b x) = 0
      · have HP : Hid (takeE S H s n b x = 0) := by show _ = _; rw [HE.out, h3]
        rw [h3]
        have p9 : w9.cell? ⟨ph, 0, none⟩ = some (.map (some mh)) := HH9.out.1.cell 0
        clear h3
        go_wp2_with (at_delete; refine wpList_delH _ rfl (.tmp 71) (.tmp 74) rfl rfl HH9.out.2 s n rfl HS.out HN.out ?_; intro w10 hm10 hf10)
        go_ret
        refine ⟨by rw [HP.out]; rfl, ?_, ?_, HF9.out.trans (hf10.mono fun _ _ h => .inr h)⟩
        · rw [HE2.out, if_pos HP.out]
          exact HC9.out.at1H HH9.out hne hf10
        · unfold takeHH
          rw [if_pos HP.out]
          exact ⟨HH9.out.1.fr hf10 (fun e => HH9.out.ne_ (show ph = mh from e).symm), hm10⟩
      · have hc9 := HC9.out
        unfold makeS at hc9
        rw [if_neg h3] at hc9
        have HAS2 := aside_any p m S1 s t w9 hc9 HS.out HI1.out.len HI1.out.ok (by unfold In64; omega)
        unfold asdE at hb1
        unfold asdS at hb2
        rw [hb1, hb2] at HAS2
        have HAS2 := Lib.hid HAS2
        have HC9' := Lib.hid hc9
        have h3' : (checkE S1 (legsT s b x) != 0) = true := by rw [bne_iff_ne]; exact h3
        have HNZ := Lib.hid h3
        generalize checkE S1 (legsT s b x) = ev at *
        clear h3 hc9 hb1 hb2
        go_wp2_with fail
        refine HAS2.out.mono ?_
        rintro e w10 ⟨rfl, hc10, hf10⟩
        have HC10 := Lib.hid hc10
        have HH10 := Lib.hid (HH9.out.at1 HC9'.out hne hf10)
        have HF10 : Hid (Fr (At2 m mh) w w10) := HF9.out.trans (hf10.mono fun _ _ h => .inl h)
        clear hc10 hf10
        go_wp2
        go_ret
        exact HERR.out _ ev HC10.out HH10.out HF10.out HE.out HNZ.out
    · have HE : Hid (takeE S H s n b x = asdE S s.data.toList (-t)) := by show _ = _; rw [HE1.out, if_neg h0]
      have h0' : (asdE S s.data.toList (-t) != 0) = true := by rw [bne_iff_ne]; exact h0
      have hc8 := HC8.out
      rw [act_err h0] at hc8
      have HC8' := Lib.hid hc8
      have HNZ := Lib.hid h0
      unfold asdE at h0' HNZ HE
      clear HC8 HBACK
      generalize actE (fun a => asideE a (-t)) S s.data.toList = ev at *
      clear h0 hc8
      go_wp2
      go_ret
      exact HERR.out _ ev HC8'.out HH8.out HF8.out HE.out HNZ.out
end Go.Proofs.YtkkhdjchfhmliaaGreat

namespace Go.Proofs.YtkkhdjchfhmliaaGreat
open Go.RowKit Go.My Go.Maps
set_option linter.unusedSimpArgs false
set_option linter.unusedVariables false

def MadeHS (w : World) (H : List Hd) (e : Ending) (w' : World) : Prop := ∃ p m, e = .returned (.pointer (some ⟨p, 0, none⟩)) ∧ HdS w' p m H ∧ Fr No w w' ∧ w.heap.size ≤ p ∧ w.heap.size ≤ m
end Go.Proofs.YtkkhdjchfhmliaaGreat
