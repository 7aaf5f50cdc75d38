/- The order of holds: cmp.Compare, cmp.Or, the closure. Holds, sorted. Holds in a slice, sorted. The holds that are wanted, in order. All holds, those of an account. Insts: their order, in a row, sorted by slices.SortFunc. -/
import Derived.Test.YtcpgamidimfflaaGreatQ08
import Derived.Shelf.SlSortCmp.WholeK
import Derived.Test.YtcpgamidimfflaaGreatSortH
import Derived.StillTailTactics
import Derived.Shelf.SlSortCmp.NoneTotal
import Derived.Test.YtcpgamidimfflaaGreatSortIn
import Derived.Test.YtcpgamidimfflaaGreatQ05
namespace Go.Proofs.YtcpgamidimfflaaGreat
open Go.RowKit Go.My Go.Maps Go.WideMaps
set_option linter.unusedSimpArgs false
set_option linter.unusedVariables false
theorem less_before (x y : List UInt8) : Op.bytesLess x y = bytesBefore x y := by
  rw [bytesLess_eq]
  cases h : bytesBefore x y with
  | true => exact decide_eq_true (before_lt _ _ h)
  | false =>
    refine decide_eq_false fun hlt => ?_
    by_cases e : x = y
    · subst e; exact List.lt_irrefl _ hlt
    · rcases WideAt.bytes_total x y e with h2 | h2
      · rw [h] at h2; cases h2
      · exact List.lt_irrefl _ (List.lt_trans hlt (before_lt _ _ h2))
theorem nanS (s : ByteArray) (w : World) : Calls Tryz.prog 224 #[.string s] w fun e w' => e = .returned (.bool false) ∧ w' = w := by
  go_enter Tryz.func224, Tryz.ntmps224
  go_wp2
  go_ret
  exact ⟨by simp, rfl⟩
theorem nanI (n : Int) (w : World) : Calls Tryz.prog 156 #[.int .i64 n] w fun e w' => e = .returned (.bool false) ∧ w' = w := by
  go_enter Tryz.func156, Tryz.ntmps156
  go_wp2
  go_ret
  exact ⟨by simp, rfl⟩
def cmpI (x y : Int) : Int := if x < y then -1 else if y < x then 1 else 0
theorem compareI (x y : Int) (w : World) : Calls Tryz.prog 107 #[.int .i64 x, .int .i64 y] w fun e w' => e = .returned (.int .i64 (cmpI x y)) ∧ w' = w := by
  go_enter Tryz.func107, Tryz.ntmps107
  go_wp2_with (go_at_call 156; refine (nanI _ _).mono ?_; rintro e w' ⟨rfl, hw⟩; rw [hw])
  all_goals (go_ret; refine ⟨?_, rfl⟩; unfold cmpI; (repeat' split) <;> first | rfl | (exfalso; omega))
def cmpS (a b : List UInt8) : Int := if bytesBefore a b then -1 else if bytesBefore b a then 1 else 0
theorem cmpS_def (x y : ByteArray) : (if Op.bytesLess x.toList y.toList = true then -1 else if x.toList = y.toList then 0 else 1) = cmpS x.data.toList y.data.toList := by
  rw [ByteArray.toList_eq, ByteArray.toList_eq, less_before]
  unfold cmpS
  by_cases h : bytesBefore x.data.toList y.data.toList = true
  · rw [if_pos h, if_pos h]
  · rw [if_neg h, if_neg h]
    by_cases e : x.data.toList = y.data.toList
    · rw [if_pos e, e, WideAt.bytes_irrefl, if_neg (by decide)]
    · rw [if_neg e]
      rcases WideAt.bytes_total _ _ e with h2 | h2
      · exact absurd h2 h
      · rw [if_pos h2]
theorem compareS (x y : ByteArray) (w : World) : Calls Tryz.prog 195 #[.string x, .string y] w fun e w' => e = .returned (.int .i64 (cmpS x.data.toList y.data.toList)) ∧ w' = w := by
  go_enter Tryz.func195, Tryz.ntmps195
  go_wp2_with (go_at_call 224; refine (nanS _ _).mono ?_; rintro e w' ⟨rfl, hw⟩; rw [hw])
  all_goals (go_ret; refine ⟨?_, rfl⟩; rw [← cmpS_def])
  · rename_i h
    rw [if_pos h]
    rfl
  · rename_i h0 _ _ h1
    rw [if_neg (by rw [h0]; decide), if_neg (by simpa using h1)]
    rfl
  · rename_i h0 h1
    rw [if_neg (by rw [h0]; decide), if_pos (by simpa using h1)]
    rfl
def orI (x y : Int) : Int := if x = 0 then y else x
theorem orI_any (g : Nat) (x y : Int) (w : World) (h0 : w.cell? ⟨g, 0, none⟩ = some (.int .i64 x)) (h1 : w.cell? ⟨g, 1, none⟩ = some (.int .i64 y)) : Calls Tryz.prog 106 #[.slice (some ⟨g, 0, none⟩) 2 2] w fun e w' => e = .returned (.int .i64 (orI x y)) ∧ w' = w := by
  go_enter Tryz.func106, Tryz.ntmps106
  by_cases hx : x = 0
  · subst hx
    by_cases hy : y = 0
    · subst hy
      go_wp2
      refine wp_loop_rounds 3 ?_
      rw [rounds_succ]
      go_wp2
      rw [rounds_succ]
      go_wp2
      rw [rounds_succ]
      go_wp2
      go_ret
      exact ⟨rfl, rfl⟩
    · go_wp2
      refine wp_loop_rounds 2 ?_
      rw [rounds_succ]
      go_wp2
      rw [rounds_succ]
      go_wp2
      go_ret
      exact ⟨rfl, rfl⟩
  · go_wp2
    refine wp_loop_rounds 1 ?_
    rw [rounds_succ]
    go_wp2
    go_ret
    exact ⟨by rw [show orI x y = x from if_neg hx]; rfl, rfl⟩
end Go.Proofs.YtcpgamidimfflaaGreat
namespace Go.My
open Go Go.RowKit
theorem wp_region_tailH {P : Program} {id : Nat} {Q : Exit → Act → World → Prop} {a : Act} {w : World} {l : List Oper} (n : Nat) (hm : P.follows .mixedOrders = true) (hB : Region.lexTailB .any l.toArray n = true)
    (h : ∀ w', w' = w.drew → wpStill P l.toArray w' (fun a' => wpList P l.toArray Q (l.drop n) a' w') (l.take n) a) : (Code.region id l.toArray true).wp P Q a w :=
  wp_region_still_tail n hm hB (h _ rfl)
end Go.My
namespace Go.Proofs.YtcpgamidimfflaaGreat
open Go.RowKit Go.My Go.Maps Go.WideMaps Go.Sort
set_option linter.unusedSimpArgs false
set_option linter.unusedVariables false
def cfH (a b : Hd) : Int := orI (cmpS a.acct b.acct) (cmpI a.num b.num)
instance : Inhabited Hd := ⟨⟨0, [], 0⟩⟩
theorem ltH (a b : Hd) : ltOf cfH a b = hB a b := by
  unfold ltOf cfH orI cmpS cmpI hB
  by_cases h1 : bytesBefore a.acct b.acct = true
  · rw [if_pos h1, if_neg (by decide), h1]; rfl
  · rw [if_neg h1]
    have h1' : bytesBefore a.acct b.acct = false := by simpa using h1
    by_cases h2 : bytesBefore b.acct a.acct = true
    · rw [if_pos h2, if_neg (by decide), h1']
      have : (a.acct == b.acct) = false := by
        rw [beq_eq_false_iff_ne]
        intro e
        rw [e, WideAt.bytes_irrefl] at h2
        cases h2
      rw [this]; rfl
    · rw [if_neg h2, if_pos rfl, h1']
      have : (a.acct == b.acct) = true := by
        rw [beq_iff_eq]
        by_cases e : a.acct = b.acct
        · exact e
        · rcases WideAt.bytes_total _ _ e with h | h
          · exact absurd h h1
          · exact absurd h h2
      rw [this]
      by_cases h3 : a.num < b.num
      · simp [h3]
      · by_cases h4 : b.num < a.num
        · simp [h3, h4]
        · simp [h3, h4]
theorem swoH : SWO (ltOf cfH) where
  irrefl x := by rw [ltH]; exact hB_irrefl rfl rfl
  trans x y z h1 h2 := by rw [ltH] at *; exact hB_trans h1 h2
  ntrans x y z h1 h2 := by
    rw [ltH] at *
    cases h : hB x z with
    | false => rfl
    | true =>
      by_cases e : y.acct = x.acct ∧ y.num = x.num
      · have : hB y z = true := by rw [hB_iff] at h ⊢; rw [e.1, e.2]; exact h
        rw [this] at h2; cases h2
      · rcases hB_total e with g | g
        · have := hB_trans g h
          rw [this] at h2; cases h2
        · rw [g] at h1; cases h1
def encH (h : Hd) : List Value := [.int .i64 h.num, .string ⟨h.acct.toArray⟩, .int .i64 h.sum]
set_option maxRecDepth 100000 in
set_option maxHeartbeats 2000000 in
theorem closure_any (x y : Hd) (W : World) : Calls Tryz.prog 194 #[.agg (encH x).toArray, .agg (encH y).toArray] W fun e w' => e = .returned (.int .i64 (cfH x y)) ∧ ∃ q os', w' = grow (W.drewN q) os' := by
  have hS := Lib.hid (fun W => compareS ⟨x.acct.toArray⟩ ⟨y.acct.toArray⟩ W)
  have hI := Lib.hid (fun W => compareI x.num y.num W)
  have hO := Lib.hid (fun g W => orI_any g (cmpS x.acct y.acct) (cmpI x.num y.num) W)
  have HR : Hid (cfH x y = orI (cmpS x.acct y.acct) (cmpI x.num y.num)) := rfl
  generalize cfH x y = r at *
  unfold encH
  simp only [List.toList_toArray] at hS
  generalize cmpS x.acct y.acct = u at *
  generalize cmpI x.num y.num = v at *
  generalize x.num = xn at *
  generalize (⟨x.acct.toArray⟩ : ByteArray) = xa at *
  generalize x.sum = xs at *
  generalize y.num = yn at *
  generalize (⟨y.acct.toArray⟩ : ByteArray) = ya at *
  generalize y.sum = ys at *
  go_enter Tryz.func194, Tryz.ntmps194
  go_wp2
  refine wp_region_tailH 10 (by kernel_rfl) (by kernel_rfl) fun w6 hw6 => ?_
  have hb0 : Blk w6 W.heap.size 129 #[.int .i64 xn, .string xa, .int .i64 xs] := by
    rw [hw6]
    exact (Blk.new W _ _).fr (((Fr.refl No _).alloc _).drew) (fun h => h)
  have hb1 : Blk w6 (W.heap.size + 1) 129 #[.int .i64 yn, .string ya, .int .i64 ys] := by
    rw [hw6]
    have h := Blk.new (W.alloc (.cells #[.int .i64 xn, .string xa, .int .i64 xs] 129)) 129 #[.int .i64 yn, .string ya, .int .i64 ys]
    rw [World.size_alloc] at h
    exact h.fr ((Fr.refl No _).drew) (fun h => h)
  have x0 : w6.cell? ⟨W.heap.size, 0, none⟩ = some (.int .i64 xn) := hb0.cell 0
  have x1 : w6.cell? ⟨W.heap.size, 1, none⟩ = some (.string xa) := hb0.cell 1
  have y0 : w6.cell? ⟨W.heap.size + 1, 0, none⟩ = some (.int .i64 yn) := hb1.cell 0
  have y1 : w6.cell? ⟨W.heap.size + 1, 1, none⟩ = some (.string ya) := hb1.cell 1
  have HC := Lib.hid (hO.out w6.heap.size (w6.alloc (.cells #[.int .i64 u, .int .i64 v] 3)) ((Blk.new w6 3 #[.int .i64 u, .int .i64 v]).cell 0) ((Blk.new w6 3 #[.int .i64 u, .int .i64 v]).cell 1))
  have HW := Lib.hid hw6
  clear hw6 hb0 hb1
  simp only [List.take_succ_cons, List.take_zero, List.drop_succ_cons, List.drop_zero]
  repeat still_step
  still_call (hS.out w6)
  repeat still_step
  still_call (hI.out w6)
  refine wpStill_nil ?_
  go_wp2_with (go_at_call 106; refine HC.out.mono ?_; rintro e w7 ⟨rfl, rfl⟩)
  go_ret
  refine ⟨by rw [HR.out]; rfl, 1, #[.cells #[.int .i64 xn, .string xa, .int .i64 xs] 129, .cells #[.int .i64 yn, .string ya, .int .i64 ys] 129, .cells #[.int .i64 u, .int .i64 v] 3], ?_⟩
  rw [HW.out]
  rw [alloc_eq_grow, alloc_eq_grow, alloc_eq_grow, grow_grow]
  rfl
theorem cmpLays_any (blk off size : Nat) (w : World) : CmpLays Tryz.prog 194 #[] encH 3 cfH blk off size w :=
  fun _ _ _ _ x y => closure_any x y _
end Go.Proofs.YtcpgamidimfflaaGreat
namespace Go.Proofs.YtcpgamidimfflaaGreat
open Go.RowKit Go.My Go.Maps Go.WideMaps Go.Sort
set_option linter.unusedSimpArgs false
set_option linter.unusedVariables false
def hds (L : List Hd) : List Value := L.flatMap encH
theorem hds_cons (a : Hd) (L : List Hd) : hds (a :: L) = encH a ++ hds L := rfl
theorem hds_append (L M : List Hd) : hds (L ++ M) = hds L ++ hds M := by unfold hds; rw [List.flatMap_append]
theorem hds_length (L : List Hd) : (hds L).length = L.length * 3 := by
  induction L with
  | nil => rfl
  | cons a L ih => rw [hds_cons, List.length_append, ih, List.length_cons]; simp [encH]; omega
theorem hds_at : ∀ (L : List Hd) (t : Nat), t < L.length * 3 → (hds L)[t]? = (encH (L[t / 3]!))[t % 3]?
  | [], t, h => by simp at h
  | a :: L, t, h => by
    rw [hds_cons]
    by_cases ht : t < 3
    · rw [List.getElem?_append_left (by simpa [encH] using ht), show t / 3 = 0 by omega, show t % 3 = t by omega]
      rfl
    · rw [List.getElem?_append_right (by simp [encH]; omega)]
      rw [show (encH a).length = 3 from rfl, hds_at L (t - 3) (by rw [List.length_cons] at h; omega)]
      rw [show (t - 3) % 3 = t % 3 by omega, show t / 3 = (t - 3) / 3 + 1 by omega]
      rw [List.getElem!_cons_succ]
theorem flat_hds (L : List Hd) : flatK encH 3 L.toArray = (hds L).toArray := by
  refine ext_get! (by rw [size_flatK]; simp [hds_length]) fun t ht => ?_
  have ht' : t < L.length * 3 := by rw [size_flatK] at ht; simpa using ht
  rw [get_flatK _ _ _ _ (by simpa using ht')]
  have h1 := hds_at L t ht'
  have h2 : t < (hds L).length := by rw [hds_length]; exact ht'
  rw [List.getElem?_eq_getElem h2] at h1
  rw [getElem!_pos _ t (by simpa using h2)]
  simp only [List.getElem_toArray]
  have e1 : L.toArray[t / 3]! = L[t / 3]! := by simp
  rw [e1]
  obtain ⟨h3, h4⟩ := List.getElem?_eq_some_iff.1 h1.symm
  rw [List.getElem!_eq_getElem?_getD, List.getElem?_eq_getElem h3, Option.getD_some, h4]
theorem take_put (F : Array Value) (cur : Array Value) (hl : F.size ≤ cur.size) : (putCells id 0 F cur).toList.take F.size = F.toList := by
  apply List.ext_getElem?
  intro t
  rw [List.getElem?_take]
  by_cases h : t < F.size
  · rw [if_pos h]
    unfold putCells
    simp only [Array.getElem?_toList, Array.getElem?_mapIdx]
    rw [Array.getElem?_eq_getElem (by omega), Array.getElem?_eq_getElem h]
    simp only [Option.map_some]
    rw [if_pos ⟨by omega, by omega⟩]
    simp [h]
  · rw [if_neg h, Array.getElem?_toList, Array.getElem?_eq_none (by omega)]
theorem heap_sortWorld (w : World) (g n : Nat) (d : Array Hd) (os : Array Obj) {cur : Array Value} (hg : w.heap[g]? = some (.cells cur 129 (0, 0))) :
    (sortWorldK encH 3 w g 0 n d os).heap[g]? = some (.cells (putCells id 0 (flatK encH 3 d) cur) 129 (0, 0)) := by
  have hlt := (Array.getElem?_eq_some_iff.1 hg).1
  unfold sortWorldK putRowK putRow
  rw [heap_grow_old _ _ (by show g < (w.heap.modify g _).size; simpa using hlt)]
  show (w.heap.modify g _)[g]? = _
  rw [Array.getElem?_modify, if_pos rfl, hg]
  rfl
theorem fr_sortWorld (w : World) (g n : Nat) (d : Array Hd) (os : Array Obj) : Fr (At1 g) w (sortWorldK encH 3 w g 0 n d os) := by
  refine ⟨rfl, rfl, rfl, ?_, fun k hk hn => ?_⟩
  · have := size_sortWorldK_c encH 3 w g 0 n d os
    exact this
  · unfold sortWorldK putRowK putRow
    rw [heap_grow_old _ _ (by show k < (w.heap.modify g _).size; simpa using hk)]
    show (w.heap.modify g _)[k]? = _
    rw [Array.getElem?_modify, if_neg (fun e : g = k => hn e.symm)]
def SortedH (w : World) (v : Value) (L : List Hd) (e : Ending) (w' : World) : Prop :=
  e = .returned (.tuple #[]) ∧ ∃ L', L'.Perm L ∧ (L'.Pairwise fun a b => hB b a = false) ∧ Own w' 129 3 v L.length (hds L') ∧ Fr (AtO v.ownBlock) w w'
theorem sortH_any (L : List Hd) (v : Value) (w : World) (h : Own w 129 3 v L.length (hds L)) (hl : L.length < 1000000) :
    Calls Tryz.prog 193 #[v, .func (.func 194) #[] #[]] w (SortedH w v L) := by
  rcases h.2 with ⟨rfl, h0⟩ | ⟨g, cap, cur, rfl, hg, hle, hm, hs, ht⟩
  · have hL : L = [] := List.length_eq_zero_iff.1 h0
    subst hL
    have h1 := AnyF.slices_SortFunc_none Tryz.sortH none 0 (.func (.func 194) #[] #[]) w
    refine Calls.mono h1 ?_
    rintro e w' ⟨rfl, rfl⟩
    exact ⟨rfl, [], List.Perm.refl _, List.Pairwise.nil, Own.nil _ _ _, Fr.refl _ _⟩
  · have hlt := (Array.getElem?_eq_some_iff.1 hg).1
    have hcs : L.length * 3 ≤ cur.size := Nat.le_trans (Nat.mul_le_mul_right 3 hle) hs
    have hH : HoldsK encH 3 w g 0 L.toArray := by
      intro j hj
      rw [flat_hds] at hj ⊢
      have hj' : j < (hds L).length := by simpa using hj
      rw [Nat.zero_add, cell_of_row w g j cur _ _ hg]
      constructor
      · have : (cur.toList.take (L.length * 3))[j]? = (hds L)[j]? := by rw [ht]
        rw [List.getElem?_take, if_pos (by rw [hds_length] at hj'; exact hj'), Array.getElem?_toList] at this
        rw [this, List.getElem?_eq_getElem hj', getElem!_pos _ j (by simpa using hj')]
        simp
      · exact Blk.frozen (t := 129) (cs := cur) hg j
    have eg : ∀ args w, (callFunc 194 args).run Tryz.prog w = .ok (.enter 194 args) w := enters_of Tryz.func194 (by kernel_rfl) rfl
    have hcon := AnyQ.slices_SortFunc Tryz.sortH 3 Tryz.isAgg129 Tryz.sizeOf129 encH (fun _ => rfl) (fun x v hv => by simp [encH] at hv; rcases hv with rfl | rfl | rfl <;> rfl) cfH swoH 194 #[] g 0 cap L.toArray w eg (cmpLays_any g 0 _ w) hH hlt (by simp; omega)
    refine Calls.mono hcon ?_
    rintro e w' ⟨rfl, d', n, os, hp, hsd, rfl⟩
    have hsz : d'.size = L.length := by have := hp.1; simpa using this
    have hperm : d'.toList.Perm L := by
      have := hp.2.2
      rw [Array.extract_eq_self_of_le (by rw [hsz]; simp), Array.extract_eq_self_of_le (by simp)] at this
      simpa using this
    refine ⟨rfl, d'.toList, hperm, ?_, ?_, ?_⟩
    · rw [List.pairwise_iff_getElem]
      intro i j hi hj hij
      have hj' : j < d'.size := by simpa using hj
      have hi' : i < d'.size := by simpa using hi
      have := hsd i j (Nat.zero_le _) hij (by simpa [hsz] using hj')
      rw [ltH, getElem!_pos d' j hj', getElem!_pos d' i hi'] at this
      simpa using this
    · have hfl : flatK encH 3 d' = (hds d'.toList).toArray := by
        have := flat_hds d'.toList
        simpa using this
      refine ⟨by rw [hds_length]; simp [hsz], .inr ⟨g, cap, _, rfl, heap_sortWorld w g n d' os hg, hle, hm, ?_, ?_⟩⟩
      · unfold putCells
        simpa using hs
      · have h1 := take_put (flatK encH 3 d') cur (by rw [size_flatK, hsz]; exact hcs)
        rw [size_flatK, hsz] at h1
        rw [h1, hfl]
    · refine (fr_sortWorld w g n d' os).mono fun k _ hk => ?_
      exact congrArg some (show k = g from hk).symm
end Go.Proofs.YtcpgamidimfflaaGreat
namespace Go.My
open Go Go.RowKit Go.Maps
theorem sorted_rise {L M : List Hd} (hp : L.Perm M) (hM : RiseH M) (hs : L.Pairwise fun a b => hB b a = false) : L = M := by
  refine rise_perm_eq hp ?_ hM
  have h1 : M.Pairwise fun a b => ¬ (a.acct = b.acct ∧ a.num = b.num) := hM.imp fun {a b} h e => by
    rw [hB_irrefl e.1 e.2] at h
    cases h
  have h2 : L.Pairwise fun a b => ¬ (a.acct = b.acct ∧ a.num = b.num) := (hp.pairwise_iff (fun {a b} h e => h ⟨e.1.symm, e.2.symm⟩)).2 h1
  refine (hs.and h2).imp fun {a b} h => ?_
  rcases hB_total h.2 with g | g
  · exact g
  · rw [h.1] at g; cases g
def remH (left : Lit → Bool) (q : Hd → Bool) (H : List Hd) : List Hd := H.filter fun h => left (kl h.acct h.num) && q h
theorem remH_all {D : DataW Unit} {H : List Hd} (hR : RepH D H) (hr : RiseH H) (ho : ∀ h ∈ H, h.ok) (q : Hd → Bool) : remH (Maps.has D) q H = H.filter q := by
  unfold remH
  refine List.filter_congr fun h hh => ?_
  rw [hR.has _ _ ⟨(ho h hh).1, (ho h hh).2.1⟩, getH_mem hr hh]
  rfl
theorem same_kl (hi : KlInj) {a b : Hd} (ha : a.ok) (hb : b.ok) : (kl a.acct a.num).sameKey (kl b.acct b.num) = (decide (a.acct = b.acct ∧ a.num = b.num)) := by
  by_cases e : a.acct = b.acct ∧ a.num = b.num
  · rw [e.1, e.2, decide_eq_true (by simp)]
    unfold kl
    show (_ == _) = true
    rw [beq_iff_eq]
  · rw [decide_eq_false e]
    unfold kl
    show (_ == _) = false
    rw [beq_eq_false_iff_ne]
    intro h
    exact e (hi _ _ _ _ ⟨ha.1, ha.2.1⟩ ⟨hb.1, hb.2.1⟩ (congrArg Lit.string h))
theorem remH_step (hi : KlInj) (left : Lit → Bool) (q : Hd → Bool) : ∀ (H : List Hd) (a : Hd), RiseH H → (∀ h ∈ H, h.ok) → a ∈ H → left (kl a.acct a.num) = true →
    (remH left q H).Perm ((if q a then [a] else []) ++ remH (fun z => left z && !z.sameKey (kl a.acct a.num)) q H)
  | c :: r, a, hr, ho, ha, hl => by
    obtain ⟨h1, h2⟩ := List.pairwise_cons.1 hr
    have ho2 : ∀ h ∈ r, h.ok := fun h hh => ho h (List.mem_cons_of_mem _ hh)
    rcases List.mem_cons.1 ha with rfl | ha
    · have hrest : remH (fun z => left z && !z.sameKey (kl a.acct a.num)) q r = remH left q r := by
        unfold remH
        refine List.filter_congr fun b hb => ?_
        show (left (kl b.acct b.num) && !(kl b.acct b.num).sameKey (kl a.acct a.num) && q b) = _
        rw [same_kl hi (ho2 b hb) (ho a List.mem_cons_self)]
        have : ¬ (b.acct = a.acct ∧ b.num = a.num) := fun e => by
          have := h1 b hb
          rw [hB_irrefl e.1.symm e.2.symm] at this
          cases this
        rw [decide_eq_false this]
        simp
      have e2 : remH (fun z => left z && !z.sameKey (kl a.acct a.num)) q (a :: r) = remH left q r := by
        rw [← hrest]
        unfold remH
        rw [List.filter_cons, if_neg]
        show ¬ (left (kl a.acct a.num) && !(kl a.acct a.num).sameKey (kl a.acct a.num) && q a) = true
        rw [same_kl hi (ho a List.mem_cons_self) (ho a List.mem_cons_self)]
        simp
      rw [e2]
      unfold remH
      rw [List.filter_cons, hl, Bool.true_and]
      by_cases hq : q a = true
      · rw [if_pos hq, if_pos hq]; exact List.Perm.refl _
      · rw [if_neg hq, if_neg hq]; exact List.Perm.refl _
    · have ih := remH_step hi left q r a h2 ho2 ha hl
      have hne : (kl c.acct c.num).sameKey (kl a.acct a.num) = false := by
        rw [same_kl hi (ho c List.mem_cons_self) (ho2 a ha)]
        refine decide_eq_false fun e => ?_
        have := h1 a ha
        rw [hB_irrefl e.1 e.2] at this
        cases this
      have e1 : ∀ f : Lit → Bool, remH f q (c :: r) = (if f (kl c.acct c.num) && q c then [c] else []) ++ remH f q r := fun f => by
        unfold remH
        rw [List.filter_cons]
        split <;> rfl
      rw [e1, e1, hne]
      simp only [Bool.not_false, Bool.and_true]
      refine (List.Perm.append_left _ ih).trans ?_
      rw [← List.append_assoc, ← List.append_assoc]
      exact List.Perm.append_right _ List.perm_append_comm
theorem RepH.entry {D : DataW Unit} {H : List Hd} (hR : RepH D H) {a : List UInt8} {n c : Int} (hk : KeyOk a n) (hat : ∀ zd, D.atKey (kl a n) zd = .lit (.int .i64 c)) : (⟨n, a, c⟩ : Hd) ∈ H := by
  have h1 := hat .nil
  rw [hR.look a n hk] at h1
  cases hg : getH H a n with
  | none => rw [hg] at h1; cases h1
  | some x =>
    rw [hg] at h1
    simp only [DataW.lit.injEq, Lit.int.injEq, true_and] at h1
    obtain ⟨h2, h3, h4⟩ := getH_some hg
    obtain ⟨xn, xa, xs⟩ := x
    simp only at h1 h3 h4
    subst h1 h3 h4
    exact h2
end Go.My
namespace Go.Proofs.YtcpgamidimfflaaGreat
open Go.RowKit Go.My Go.Maps Go.WideMaps Go.Sort
set_option linter.unusedSimpArgs false
set_option linter.unusedVariables false
theorem elH : El Tryz.prog 127 129 3 32 := ⟨Tryz.underlying127, by
  have h : (Tryz.prog.info? 129).map (fun i => (i.zero, i.size, i.bytes)) = some (some (.agg #[.int .i64 0, .string ⟨#[]⟩, .int .i64 0]), 3, 32) := by kernel_rfl
  obtain ⟨i, hi, hz, hs, hb⟩ := info_parts h
  exact ⟨i, _, hi, hz, hs, hb, rfl⟩, by omega⟩
def ThRel (w : World) (m r : Nat) (D : DataW Unit) (q : Hd → Bool) (H : List Hd) (lv : Value) (wr : World) : Prop :=
  ∃ (left : Lit → Bool) (cnt : Nat) (L : List Hd), wr.ranges Tryz.prog 215 hdR m r H.length D left cnt ∧ Own wr 129 3 lv L.length (hds L) ∧ Fr No w wr ∧ Newer w.heap.size none lv.ownBlock ∧ w.heap.size ≤ r ∧ (L ++ remH left q H).Perm (H.filter q)
set_option maxRecDepth 100000 in
set_option maxHeartbeats 2000000 in
theorem those_any (p m : Nat) (H : List Hd) (w : World) (h : HdS w p m H) (hH : H.length < 10000) (f : Nat) (bs : Array Value) (q : Hd → Bool)
    (hf : ∀ args W, (callFunc f args).run Tryz.prog W = .ok (.enter f args) W)
    (hc : ∀ W, Fr No w W → ∀ (s : ByteArray) (n c : Int), KeyOk s.data.toList n → Calls Tryz.prog f (#[.agg #[.string s, .int .i64 n]] ++ bs) W fun e w' => e = .returned (.bool (q ⟨n, s.data.toList, c⟩)) ∧ Fr No W w') :
    Calls Tryz.prog 145 #[.pointer (some ⟨p, 0, none⟩), .func (.func f) #[] bs] w (RetOwn w 129 3 none (H.filter q).length (hds (H.filter q))) := by
  have c0 := h.1.cell 0
  simp only [List.getElem?_toArray, List.getElem?_cons_zero] at c0
  have hml := h.2.lt
  obtain ⟨D, hD, hR⟩ := h.2.own
  have HM := Lib.hid h.2
  have HR := Lib.hid hR
  have HD := Lib.hid hD
  have HC := Lib.hid hc
  clear hR h hD hc
  go_enter Tryz.func145, Tryz.ntmps145
  go_wp2_with (at_range; refine wpList_range_own _ rfl (.tmp 13) 187 rfl 215 2 keyedH Tryz.underlying187 hdR m H.length D rfl HD.out ?_; intro w0 hrg0 hg0 hs0)
  go_frame
  have hmr : m ≠ w.heap.size := by omega
  go_loopw [5] (fun lv wr => ThRel w m w.heap.size D q H lv wr) (fun _ wr => wr.rangeLeft m w.heap.size)
  case atStart => exact ⟨_, _, [], hrg0, Own.nil _ _ _, fr_grown0 hg0, .inl rfl, Nat.le_refl _, by rw [remH_all HR.out HM.out.rise HM.out.ok]; exact List.Perm.refl _⟩
  case round =>
    obtain ⟨left, cnt, L, hrg, hown, hfr, hnew, hr, hperm⟩ := hrel
    have HP := Lib.hid hperm
    have HFR := Lib.hid hfr
    have HRG := Lib.hid hrg
    have HOWN := Lib.hid hown
    have HNEW := Lib.hid hnew
    clear hfr hrg hown hnew hperm
    have HNR := Lib.hid (own_ne_range HOWN.out HRG.out)
    go_wp2_with (at_next; refine wpList_next_ranges _ rfl (.tmp 14) rfl 215 keyedH hdR (fun x : ByteArray × Int => .agg #[.string x.1, .int .i64 x.2]) (Value.int .i64) (fun key kl hk => by obtain ⟨s, n, hs, _⟩ := key_inv hk; exact ⟨⟨s, n⟩, hs⟩) (fun v y hv => by obtain ⟨c, hc, _⟩ := plainElem_int_inv Tryz.underlying2 hv; exact ⟨c, hc⟩) m w.heap.size H.length D left cnt rfl HRG.out ?_ ?_)
    · intro hc0 hl0
      have hrem : remH left q H = [] := by
        unfold remH
        refine List.filter_eq_nil_iff.2 fun a _ => ?_
        rw [hl0]
        simp
      have hp2 := HP.out
      rw [hrem, List.append_nil] at hp2
      have hlen : L.length < 1000000 := by
        have h1 := hp2.length_eq
        have h2 := List.length_filter_le q H
        omega
      have HS := Lib.hid (sortH_any L _ wr HOWN.out hlen)
      have HPP := Lib.hid hp2
      clear hrem hp2 hl0 hc0
      go_wp2_with (go_at_call 193; refine HS.out.mono ?_; rintro e w5 ⟨rfl, L', hpL, hsL, hown5, hf5⟩)
      go_ret
      have e1 : L' = H.filter q := sorted_rise (hpL.trans HPP.out) (rise_filter HM.out.rise q) hsL
      have e2 : L.length = (H.filter q).length := HPP.out.length_eq
      rw [e1, e2] at hown5
      exact ⟨_, rfl, hown5, (fr_no HFR.out HNEW.out hf5).mono fun _ _ h => False.elim h, HNEW.out⟩
    · intro s n c kl1 yd yp w1 cnt1 hkey hlk hv hat hrg1 hlt hg1 hs1 hen
      obtain ⟨s', n', he, hk, rfl⟩ := key_inv hkey
      simp only [Value.agg.injEq, Array.mk.injEq, List.cons.injEq, Value.string.injEq, Value.int.injEq, and_true, true_and] at he
      obtain ⟨rfl, rfl⟩ := he
      obtain ⟨c', hc1, hy, hw⟩ := plainElem_int_inv Tryz.underlying2 hv
      simp only [Value.int.injEq, true_and] at hc1
      subst hc1
      simp only [Prod.mk.injEq] at hy
      obtain ⟨rfl, rfl⟩ := hy
      have hmem := HR.out.entry hk hat
      have HPM := Lib.hid (remH_step klInj left q H ⟨n, s.data.toList, c⟩ HM.out.rise HM.out.ok hmem hlk)
      have HRG1 := Lib.hid hrg1
      have HF1 := Lib.hid (fr_grown hg1)
      have HO1 := Lib.hid (HOWN.out.fr (fr_grown hg1) HNR.out)
      have HLT := Lib.hid hlt
      have HK := Lib.hid hk
      have hg0 : Fr No w w1 := by
        have h1 := HFR.out.size
        exact HFR.out.trans' HF1.out (fun i hi hlt => by have : i = w.heap.size := hi; omega)
      have HF1' := Lib.hid hg0
      have hb1 := fun a b => Blk.new w1 215 #[a, b]
      clear hmr hkey hlk hv hat hrg1 hlt hg1 hs1 hmem hk hw hg0
      have hlen : L.length < 10000 := by
        have h1 := HP.out.length_eq
        have h2 := List.length_filter_le q H
        rw [List.length_append] at h1
        omega
      by_cases hq : q ⟨n, s.data.toList, c⟩ = true
      · rw [if_pos hq] at HPM
        go_wp2_with fail
        refine (HC.out _ (HF1'.out.alloc _) s n c HK.out).mono ?_
        rintro e w3 ⟨rfl, hf3⟩
        have hb3 : Blk w3 w1.heap.size 215 #[.string s, .int .i64 n] := (hb1 _ _).fr hf3 (fun h => h)
        have HO3 := Lib.hid ((HO1.out.alloc (.cells #[.string s, .int .i64 n] 215)).fr hf3 (fun _ _ h => h))
        have HF3 : Hid (Fr No w1 w3) := ((Fr.refl No w1).alloc _).trans hf3
        have HRG3 := Lib.hid (ranges_fr HRG1.out HF3.out (fun h => h) (fun h => h))
        have z0 : w3.cell? ⟨w1.heap.size, 0, none⟩ = some (.string s) := hb3.cell 0
        have z1 : w3.cell? ⟨w1.heap.size, 1, none⟩ = some (.int .i64 n) := hb3.cell 1
        clear hf3 hb3
        rw [hq]
        go_wp2_with (at_builtin; refine wpList_app _ rfl (.tmp 23) (.tmp 30) 127 127 rfl elH (HO3.out.alloc _) rfl (Src.of_new w3.heap.size (heap_alloc_new w3 _) Tryz.underlying127 rfl (by simp [Value.oneCell'])) rfl (by unfold maxLen; omega) (by omega) ?_; intro v1 w4 hown4 hfr4 hnew4)
        have HF4 := Lib.hid (Fr.trans ((Fr.refl (AtO u5.ownBlock) w3).alloc _) hfr4)
        have HO4 := Lib.hid hown4
        have HN4 := Lib.hid hnew4
        clear hown4 hfr4 hnew4
        have HRG4 := Lib.hid (ranges_fr HRG3.out HF4.out (fun h => own_ne_map HOWN.out HRG.out.owns _ h rfl) (fun h => HNR.out _ h rfl))
        go_roundw
        case rel =>
          refine ⟨_, cnt1, L ++ [⟨n, s.data.toList, c⟩], HRG4.out, ?_, ?_, ?_, Nat.le_refl _, ?_⟩
          · have h3 := HO4.out
            rw [List.length_append, hds_append]
            exact h3
          · exact fr_no (HF1'.out.trans HF3.out) HNEW.out HF4.out
          · have h1 := HF1'.out.size
            have h2 := HF3.out.size
            exact HNEW.out.trans (Newer.of HN4.out) (by simp; omega)
          · refine List.Perm.trans ?_ HP.out
            rw [List.append_assoc]
            exact List.Perm.append_left _ HPM.out.symm
        case measure =>
          rw [HRG4.out.left_eq, HRG.out.left_eq]
          exact HLT.out
      · rw [if_neg hq] at HPM
        have hq : q ⟨n, s.data.toList, c⟩ = false := by simpa using hq
        go_wp2_with fail
        refine (HC.out _ (HF1'.out.alloc _) s n c HK.out).mono ?_
        rintro e w3 ⟨rfl, hf3⟩
        have hb3 : Blk w3 w1.heap.size 215 #[.string s, .int .i64 n] := (hb1 _ _).fr hf3 (fun h => h)
        have HO3 := Lib.hid ((HO1.out.alloc (.cells #[.string s, .int .i64 n] 215)).fr hf3 (fun _ _ h => h))
        have HF3 : Hid (Fr No w1 w3) := ((Fr.refl No w1).alloc _).trans hf3
        have HRG3 := Lib.hid (ranges_fr HRG1.out HF3.out (fun h => h) (fun h => h))
        have z0 : w3.cell? ⟨w1.heap.size, 0, none⟩ = some (.string s) := hb3.cell 0
        have z1 : w3.cell? ⟨w1.heap.size, 1, none⟩ = some (.int .i64 n) := hb3.cell 1
        clear hf3 hb3
        rw [hq]
        go_wp2
        go_roundw
        case rel =>
          refine ⟨_, cnt1, L, HRG3.out, HO3.out, HF1'.out.trans HF3.out, HNEW.out, Nat.le_refl _, ?_⟩
          refine List.Perm.trans ?_ HP.out
          exact List.Perm.append_left _ HPM.out.symm
        case measure =>
          rw [HRG3.out.left_eq, HRG.out.left_eq]
          exact HLT.out
end Go.Proofs.YtcpgamidimfflaaGreat
namespace Go.Proofs.YtcpgamidimfflaaGreat
open Go.RowKit Go.My Go.Maps Go.WideMaps Go.Sort
set_option linter.unusedSimpArgs false
set_option linter.unusedVariables false
theorem ofLit (s a : ByteArray) (n : Int) (g : Nat) (w : World) (hg : w.cell? ⟨g, 0, none⟩ = some (.string a)) : Calls Tryz.prog 269 #[.agg #[.string s, .int .i64 n], .pointer (some ⟨g, 0, none⟩)] w fun e w' => e = .returned (.bool (s.data.toList == a.data.toList)) ∧ Fr No w w' := by
  have hgl := World.block_lt_of_cell? w _ hg
  simp only at hgl
  go_enter Tryz.func269, Tryz.ntmps269
  go_wp2
  go_ret
  refine ⟨?_, (Fr.refl _ _).alloc _⟩
  rw [← ByteArray.toList_eq, ← ByteArray.toList_eq]
  rfl
theorem ofH_any (p m : Nat) (H : List Hd) (s : ByteArray) (w : World) (h : HdS w p m H) (hH : H.length < 10000) :
    Calls Tryz.prog 228 #[.pointer (some ⟨p, 0, none⟩), .string s] w (RetOwn w 129 3 none (ofH H s.data.toList).length (hds (ofH H s.data.toList))) := by
  have h1 := those_any p m H (w.alloc (.cells #[.string s] 9)) (h.no ((Fr.refl _ _).alloc _)) hH 269 #[.pointer (some ⟨w.heap.size, 0, none⟩)] (fun h => h.acct == s.data.toList) (enters_of Tryz.func269 (by kernel_rfl) rfl) (fun W hW x n c _ => ofLit x s n w.heap.size W (((Blk.new w 9 #[.string s]).fr hW (fun h => h)).cell 0))
  have H1 := Lib.hid h1
  clear h1
  go_enter Tryz.func228, Tryz.ntmps228
  go_wp2_with (go_at_call 145; refine H1.out.mono ?_; rintro e w1 ⟨v, rfl, hr, hf, hn⟩)
  go_ret
  exact ⟨v, rfl, hr, ((Fr.refl _ _).alloc _).trans hf, Newer.trans (.inl rfl) hn (by simp)⟩
end Go.Proofs.YtcpgamidimfflaaGreat
namespace Go.Proofs.YtcpgamidimfflaaGreat
open Go.RowKit Go.My Go.Maps Go.WideMaps Go.Sort
set_option linter.unusedSimpArgs false
set_option linter.unusedVariables false
def cfI (a b : In2) : Int := orI (cmpI a.1 b.1) (cmpI a.2 b.2)
theorem cfI_lt (a b : In2) : (cfI a b < 0) ↔ aheadI a b = true := by
  rw [aheadI_iff]
  unfold cfI orI cmpI
  by_cases h1 : a.1 < b.1
  · rw [if_pos h1]; simp [h1]
  · by_cases h2 : b.1 < a.1
    · rw [if_neg h1, if_pos h2]; simp; omega
    · rw [if_neg h1, if_neg h2]
      by_cases h3 : a.2 < b.2
      · rw [if_pos h3]; simp; omega
      · by_cases h4 : b.2 < a.2
        · rw [if_neg h3, if_pos h4]; simp; omega
        · rw [if_neg h3, if_neg h4]; simp; omega
theorem ltI (a b : In2) : ltOf cfI a b = aheadI a b := by
  unfold ltOf
  rw [Bool.eq_iff_iff, decide_eq_true_iff, cfI_lt]
theorem swoI : SWO (ltOf cfI) where
  irrefl x := by rw [ltI]; exact aheadI_irrefl x
  trans x y z h1 h2 := by rw [ltI] at *; exact aheadI_trans h1 h2
  ntrans x y z h1 h2 := by
    rw [ltI] at *
    cases h : aheadI x z with
    | false => rfl
    | true =>
      by_cases e : y = x
      · subst e; rw [h] at h2; cases h2
      · rcases aheadI_total e with g | g
        · rw [aheadI_trans g h] at h2; cases h2
        · rw [g] at h1; cases h1
def encI (a : In2) : List Value := [.int .i64 a.1, .int .i64 a.2]
set_option maxRecDepth 100000 in
set_option maxHeartbeats 2000000 in
theorem compareIn_any (x y : In2) (W : World) : Calls Tryz.prog 78 #[.agg (encI x).toArray, .agg (encI y).toArray] W fun e w' => e = .returned (.int .i64 (cfI x y)) ∧ ∃ q os', w' = grow (W.drewN q) os' := by
  have hI1 := Lib.hid (fun W => compareI x.1 y.1 W)
  have hI2 := Lib.hid (fun W => compareI x.2 y.2 W)
  have hO := Lib.hid (fun g W => orI_any g (cmpI x.1 y.1) (cmpI x.2 y.2) W)
  have HR : Hid (cfI x y = orI (cmpI x.1 y.1) (cmpI x.2 y.2)) := rfl
  generalize cfI x y = r at *
  unfold encI
  generalize cmpI x.1 y.1 = u at *
  generalize cmpI x.2 y.2 = v at *
  generalize x.1 = x1 at *
  generalize x.2 = x2 at *
  generalize y.1 = y1 at *
  generalize y.2 = y2 at *
  go_enter Tryz.func78, Tryz.ntmps78
  go_wp2
  refine wp_region_tailH 10 (by kernel_rfl) (by kernel_rfl) fun w6 hw6 => ?_
  have hb0 : Blk w6 W.heap.size 30 #[.int .i64 x1, .int .i64 x2] := by
    rw [hw6]
    exact (Blk.new W _ _).fr (((Fr.refl No _).alloc _).drew) (fun h => h)
  have hb1 : Blk w6 (W.heap.size + 1) 30 #[.int .i64 y1, .int .i64 y2] := by
    rw [hw6]
    have h := Blk.new (W.alloc (.cells #[.int .i64 x1, .int .i64 x2] 30)) 30 #[.int .i64 y1, .int .i64 y2]
    rw [World.size_alloc] at h
    exact h.fr ((Fr.refl No _).drew) (fun h => h)
  have c0 : w6.cell? ⟨W.heap.size, 0, none⟩ = some (.int .i64 x1) := hb0.cell 0
  have c1 : w6.cell? ⟨W.heap.size, 1, none⟩ = some (.int .i64 x2) := hb0.cell 1
  have d0 : w6.cell? ⟨W.heap.size + 1, 0, none⟩ = some (.int .i64 y1) := hb1.cell 0
  have d1 : w6.cell? ⟨W.heap.size + 1, 1, none⟩ = some (.int .i64 y2) := hb1.cell 1
  have HC := Lib.hid (hO.out w6.heap.size (w6.alloc (.cells #[.int .i64 u, .int .i64 v] 3)) ((Blk.new w6 3 #[.int .i64 u, .int .i64 v]).cell 0) ((Blk.new w6 3 #[.int .i64 u, .int .i64 v]).cell 1))
  have HW := Lib.hid hw6
  clear hw6 hb0 hb1
  simp only [List.take_succ_cons, List.take_zero, List.drop_succ_cons, List.drop_zero]
  repeat still_step
  still_call (hI1.out w6)
  repeat still_step
  still_call (hI2.out w6)
  refine wpStill_nil ?_
  go_wp2_with (go_at_call 106; refine HC.out.mono ?_; rintro e w7 ⟨rfl, rfl⟩)
  go_ret
  refine ⟨by rw [HR.out]; rfl, 1, #[.cells #[.int .i64 x1, .int .i64 x2] 30, .cells #[.int .i64 y1, .int .i64 y2] 30, .cells #[.int .i64 u, .int .i64 v] 3], ?_⟩
  rw [HW.out]
  rw [alloc_eq_grow, alloc_eq_grow, alloc_eq_grow, grow_grow]
  rfl
theorem fr_grow (W : World) (q : Nat) (os' : Array Obj) : Fr No W (grow (W.drewN q) os') :=
  ⟨rfl, rfl, rfl, by have := size_grow (W.drewN q) os'; have h : (W.drewN q).heap.size = W.heap.size := rfl; omega, fun k hk _ => heap_grow_old (W.drewN q) os' hk⟩
theorem cmpLaysI (blk off size : Nat) (w : World) : CmpLays Tryz.prog 78 #[] encI 2 cfI blk off size w :=
  fun _ _ _ _ x y => compareIn_any x y _
def ins2 (L : List In2) : List Value := L.flatMap encI
theorem ins2_cons (a : In2) (L : List In2) : ins2 (a :: L) = encI a ++ ins2 L := rfl
theorem ins2_append (L M : List In2) : ins2 (L ++ M) = ins2 L ++ ins2 M := by unfold ins2; rw [List.flatMap_append]
theorem ins2_length (L : List In2) : (ins2 L).length = L.length * 2 := by
  induction L with
  | nil => rfl
  | cons a L ih => rw [ins2_cons, List.length_append, ih, List.length_cons]; simp [encI]; omega
theorem ins2_at : ∀ (L : List In2) (t : Nat), t < L.length * 2 → (ins2 L)[t]? = (encI (L[t / 2]!))[t % 2]?
  | [], t, h => by simp at h
  | a :: L, t, h => by
    rw [ins2_cons]
    by_cases ht : t < 2
    · rw [List.getElem?_append_left (by simpa [encI] using ht), show t / 2 = 0 by omega, show t % 2 = t by omega]
      rfl
    · rw [List.getElem?_append_right (by simp [encI]; omega)]
      rw [show (encI a).length = 2 from rfl, ins2_at L (t - 2) (by rw [List.length_cons] at h; omega)]
      rw [show (t - 2) % 2 = t % 2 by omega, show t / 2 = (t - 2) / 2 + 1 by omega]
      rw [List.getElem!_cons_succ]
theorem flat_ins (L : List In2) : flatK encI 2 L.toArray = (ins2 L).toArray := by
  refine ext_get! (by rw [size_flatK]; simp [ins2_length]) fun t ht => ?_
  have ht' : t < L.length * 2 := by rw [size_flatK] at ht; simpa using ht
  rw [get_flatK _ _ _ _ (by simpa using ht')]
  have h1 := ins2_at L t ht'
  have h2 : t < (ins2 L).length := by rw [ins2_length]; exact ht'
  rw [List.getElem?_eq_getElem h2] at h1
  rw [getElem!_pos _ t (by simpa using h2)]
  simp only [List.getElem_toArray]
  have e1 : L.toArray[t / 2]! = L[t / 2]! := by simp
  rw [e1]
  obtain ⟨h3, h4⟩ := List.getElem?_eq_some_iff.1 h1.symm
  rw [List.getElem!_eq_getElem?_getD, List.getElem?_eq_getElem h3, Option.getD_some, h4]
theorem heap_sortWorldI (w : World) (g n : Nat) (d : Array In2) (os : Array Obj) {cur : Array Value} (hg : w.heap[g]? = some (.cells cur 30 (0, 0))) :
    (sortWorldK encI 2 w g 0 n d os).heap[g]? = some (.cells (putCells id 0 (flatK encI 2 d) cur) 30 (0, 0)) := by
  have hlt := (Array.getElem?_eq_some_iff.1 hg).1
  unfold sortWorldK putRowK putRow
  rw [heap_grow_old _ _ (by show g < (w.heap.modify g _).size; simpa using hlt)]
  show (w.heap.modify g _)[g]? = _
  rw [Array.getElem?_modify, if_pos rfl, hg]
  rfl
theorem fr_sortWorldI (w : World) (g n : Nat) (d : Array In2) (os : Array Obj) : Fr (At1 g) w (sortWorldK encI 2 w g 0 n d os) := by
  refine ⟨rfl, rfl, rfl, ?_, fun k hk hn => ?_⟩
  · have := size_sortWorldK_c encI 2 w g 0 n d os
    exact this
  · unfold sortWorldK putRowK putRow
    rw [heap_grow_old _ _ (by show k < (w.heap.modify g _).size; simpa using hk)]
    show (w.heap.modify g _)[k]? = _
    rw [Array.getElem?_modify, if_neg (fun e : g = k => hn e.symm)]
def SortedI (w : World) (v : Value) (L : List In2) (e : Ending) (w' : World) : Prop :=
  e = .returned (.tuple #[]) ∧ ∃ L', L'.Perm L ∧ (L'.Pairwise fun a b => aheadI b a = false) ∧ Own w' 30 2 v L.length (ins2 L') ∧ Fr (AtO v.ownBlock) w w'
theorem sortIn_any (L : List In2) (v : Value) (w : World) (h : Own w 30 2 v L.length (ins2 L)) (hl : L.length < 1000000) :
    Calls Tryz.prog 95 #[v, .func (.func 78) #[] #[]] w (SortedI w v L) := by
  rcases h.2 with ⟨rfl, h0⟩ | ⟨g, cap, cur, rfl, hg, hle, hm, hs, ht⟩
  · have hL : L = [] := List.length_eq_zero_iff.1 h0
    subst hL
    have h1 := AnyF.slices_SortFunc_none Tryz.sortIn none 0 (.func (.func 78) #[] #[]) w
    refine Calls.mono h1 ?_
    rintro e w' ⟨rfl, rfl⟩
    exact ⟨rfl, [], List.Perm.refl _, List.Pairwise.nil, Own.nil _ _ _, Fr.refl _ _⟩
  · have hlt := (Array.getElem?_eq_some_iff.1 hg).1
    have hcs : L.length * 2 ≤ cur.size := Nat.le_trans (Nat.mul_le_mul_right 2 hle) hs
    have hH : HoldsK encI 2 w g 0 L.toArray := by
      intro j hj
      rw [flat_ins] at hj ⊢
      have hj' : j < (ins2 L).length := by simpa using hj
      rw [Nat.zero_add, cell_of_row w g j cur _ _ hg]
      constructor
      · have : (cur.toList.take (L.length * 2))[j]? = (ins2 L)[j]? := by rw [ht]
        rw [List.getElem?_take, if_pos (by rw [ins2_length] at hj'; exact hj'), Array.getElem?_toList] at this
        rw [this, List.getElem?_eq_getElem hj', getElem!_pos _ j (by simpa using hj')]
        simp
      · exact Blk.frozen (t := 30) (cs := cur) hg j
    have eg : ∀ args w, (callFunc 78 args).run Tryz.prog w = .ok (.enter 78 args) w := enters_of Tryz.func78 (by kernel_rfl) rfl
    have hcon := AnyQ.slices_SortFunc Tryz.sortIn 2 Tryz.isAgg30 Tryz.sizeOf30 encI (fun _ => rfl) (fun x v hv => by simp [encI] at hv; rcases hv with rfl | rfl <;> rfl) cfI swoI 78 #[] g 0 cap L.toArray w eg (cmpLaysI g 0 _ w) hH hlt (by simp; omega)
    refine Calls.mono hcon ?_
    rintro e w' ⟨rfl, d', n, os, hp, hsd, rfl⟩
    have hsz : d'.size = L.length := by have := hp.1; simpa using this
    have hperm : d'.toList.Perm L := by
      have := hp.2.2
      rw [Array.extract_eq_self_of_le (by rw [hsz]; simp), Array.extract_eq_self_of_le (by simp)] at this
      simpa using this
    refine ⟨rfl, d'.toList, hperm, ?_, ?_, ?_⟩
    · rw [List.pairwise_iff_getElem]
      intro i j hi hj hij
      have hj' : j < d'.size := by simpa using hj
      have hi' : i < d'.size := by simpa using hi
      have := hsd i j (Nat.zero_le _) hij (by simpa [hsz] using hj')
      rw [ltI, getElem!_pos d' j hj', getElem!_pos d' i hi'] at this
      simpa using this
    · have hfl : flatK encI 2 d' = (ins2 d'.toList).toArray := by
        have := flat_ins d'.toList
        simpa using this
      refine ⟨by rw [ins2_length]; simp [hsz], .inr ⟨g, cap, _, rfl, heap_sortWorldI w g n d' os hg, hle, hm, ?_, ?_⟩⟩
      · unfold putCells
        simpa using hs
      · have h1 := take_put (flatK encI 2 d') cur (by rw [size_flatK, hsz]; exact hcs)
        rw [size_flatK, hsz] at h1
        rw [h1, hfl]
    · refine (fr_sortWorldI w g n d' os).mono fun k _ hk => ?_
      exact congrArg some (show k = g from hk).symm
end Go.Proofs.YtcpgamidimfflaaGreat
