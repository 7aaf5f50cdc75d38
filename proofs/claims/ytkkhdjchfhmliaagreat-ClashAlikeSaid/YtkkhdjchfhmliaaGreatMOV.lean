/- Replies, as they are in lists. Maps from numbers to values of any kind (functions, structs of them) that the call makes: of no program. A region that draws its order, by an invariant: of no program. A region that draws its order, whose operations and callees keep to a class of worlds: one walk of the text's order serves every order. Of no program. A region taken out of a function's code, so that a lemma can speak of it alone. Of no program. Contracts of package order: shapes. Contracts of package order: shapes, as a table. Contracts of package order: what the fields of a kind's orders may be. Contracts of package order: legs. Contracts of package order: rightLegs. Contracts of package order: Right. Contracts of package order: Right, its first region. Contracts of package order: Right. Orders as they come in and lie in memory: their readers. Contracts of package order: Same. Lists of orders in memory; replies in rows. Legs as cells. -/
import Derived.Test.YtkkhdjchfhmliaaGreatKit0
import Derived.Test.YtkkhdjchfhmliaaGreatCoinsMath
import Derived.Test.YtkkhdjchfhmliaaGreatLib
import Derived.Maps.Ext
import Derived.Maps.OwnSet
import Derived.Maps.OwnOps
import Derived.RegionTactic
import Derived.Deep.QuietTactic
import Derived.BigQuiet
import Derived.Test.YtkkhdjchfhmliaaGreatLg
import Derived.Laws.EntriesVeiled
import Derived.Deep.DrawnRows
import Derived.Sort.Walk0
import Derived.Deep.RegionHeld3
import Derived.Test.YtkkhdjchfhmliaaGreatOpen
namespace Go.Proofs.YtkkhdjchfhmliaaGreat
open Go.RowKit Go.My Go.Maps
set_option linter.unusedSimpArgs false
set_option linter.unusedVariables false
/-- a reply -/
structure Rp where
  err : Int
  hv : Int
  st : Int
  num : Int
instance : DecidableEq Rp := fun a b =>
  if h : a.err = b.err ∧ a.hv = b.hv ∧ a.st = b.st ∧ a.num = b.num then isTrue (by cases a; cases b; simp_all) else isFalse (fun e => h (by subst e; exact ⟨rfl, rfl, rfl, rfl⟩))
def Rp.ok (r : Rp) : Prop := In64 r.err ∧ In64 r.hv ∧ In64 r.st ∧ In64 r.num
def Rp.val (r : Rp) : Value := .agg #[.int .i64 r.err, .int .i64 r.hv, .int .i64 r.st, .int .i64 r.num]
end Go.Proofs.YtkkhdjchfhmliaaGreat

namespace Go.My
open Go Go.RowKit Go.Maps
set_option linter.unusedSimpArgs false
set_option linter.unusedVariables false

def heldR (v : Value) : Option (DataW Value × List MemPlace) := some (.held v, [])
theorem isKey_int (k : Int) : WideAt.IsKeyLit (.int .i64 k) := by unfold WideAt.IsKeyLit; exact True.intro
/-- block m is such a map: what it holds, by key -/
def Tab (P : Program) (kt : TypeId) (w : World) (m n : Nat) (f : Int → Option Value) : Prop :=
  ∃ D : DataW Value, w.ownsMap P kt heldR m n D ∧ Tidy D ∧ (∀ k, In64 k → Maps.has D (.int .i64 k) = (f k).isSome) ∧ ∀ k, In64 k → ∀ z, D.atKey (.int .i64 k) z = match f k with | some v => .held v | none => z
section
variable {P : Program} {kt : TypeId} {w w' : World} {m n : Nat} {f : Int → Option Value}
theorem Tab.lt (h : Tab P kt w m n f) : m < w.heap.size := by obtain ⟨D, h, _⟩ := h; exact h.lt
theorem Tab.fr {F : Nat → Prop} (h : Tab P kt w m n f) (hf : Fr F w w') (hn : ¬ F m) : Tab P kt w' m n f := by
  obtain ⟨D, ⟨es, clock, hb, r⟩, r2⟩ := h
  exact ⟨D, ⟨es, clock, (hf.block m (Array.getElem?_eq_some_iff.1 hb).1 hn).trans hb, r⟩, r2⟩
theorem Tab.made (w : World) : Tab P kt (w.alloc (.map #[] 0)) w.heap.size 0 (fun _ => none) :=
  ⟨.map [], World.ownsMap_made _ _ _ _, tidy_empty, fun _ _ => rfl, fun _ _ _ => rfl⟩
theorem key_i64 (hk : P.underlying kt = some (.int .i64)) {k : Int} (h : In64 k) : keyOf P kt (.int .i64 k) = some (.int .i64 k) := by
  refine keyOf_int_mk hk ?_
  unfold In64 at h
  unfold Lit.wf IntKind.min IntKind.max
  simp [IntKind.signed, IntKind.bits]
  omega
theorem Tab.put (h : Tab P kt w m n f) (hk : P.underlying kt = some (.int .i64)) {t e : TypeId} (ht : P.underlying t = some (.map kt e)) (hn : n < maxLen) (k : Int) (hK : In64 k) (v : Value) :
    ∃ w', (Instr.mapUpdate t (.map (some m)) (.int .i64 k) v).run P w = .ok () w' ∧ Tab P kt w' m (n + 1) (fun j => if j = k then some v else f j) ∧ Fr (At1 m) w w' := by
  obtain ⟨D, ho, hT, hh, ha⟩ := h
  obtain ⟨w', hrun, hown, hg⟩ := ho.update (int_keyed hk) ht hn (key_i64 hk hK) (show heldR v = some (.held v, []) from rfl)
  refine ⟨w', hrun, ⟨_, hown, hT.put (isKey_int k) _, fun j hj => ?_, fun j hj z => ?_⟩, ⟨hg.os, hg.tape, hg.output, hg.size, fun i hi hn => hg.block i hi (fun e => hn (by injection e with e))⟩⟩
  · by_cases e : j = k
    · subst e
      rw [has_put_same hT.isMap (isKey_int _)]
      simp
    · rw [has_put_other (fun e2 => e (by injection e2)), hh j hj]
      simp [e]
  · by_cases e : j = k
    · subst e
      rw [atKey_put_same hT.isMap (isKey_int _)]
      simp
    · rw [atKey_put_other (fun e2 => e (by injection e2)), ha j hj z]
      simp [e]
theorem Tab.look_ok (h : Tab P kt w m n f) (hk : P.underlying kt = some (.int .i64)) {t e : TypeId} (ht : P.underlying t = some (.map kt e)) {z : Value} (hz : (zeroValue e).run P w = .ok z w) (k : Int) (hK : In64 k) :
    (Instr.lookup t (.map (some m)) (.int .i64 k) true).run P w = .ok (.tuple #[(f k).getD z, .bool (f k).isSome]) w := by
  obtain ⟨D, ho, hT, hh, ha⟩ := h
  obtain ⟨v, ps, hrun, hv⟩ := ho.look_ok (int_keyed hk) ht hz (show heldR z = some (.held z, []) from rfl) (key_i64 hk hK)
  rw [hh k hK] at hrun
  rw [ha k hK] at hv
  cases hf : f k with
  | none =>
    rw [hf] at hrun hv
    injection hv with hv
    injection hv with hv _
    injection hv with hv
    rw [hrun, hv]
    rfl
  | some u =>
    rw [hf] at hrun hv
    injection hv with hv
    injection hv with hv _
    injection hv with hv
    rw [hrun, hv]
    rfl
theorem Tab.look (h : Tab P kt w m n f) (hk : P.underlying kt = some (.int .i64)) {t e : TypeId} (ht : P.underlying t = some (.map kt e)) {z : Value} (hz : (zeroValue e).run P w = .ok z w) (k : Int) (hK : In64 k) :
    (Instr.lookup t (.map (some m)) (.int .i64 k) false).run P w = .ok ((f k).getD z) w := by
  obtain ⟨D, ho, hT, hh, ha⟩ := h
  obtain ⟨v, ps, hrun, hv⟩ := ho.lookup (int_keyed hk) ht hz (show heldR z = some (.held z, []) from rfl) (key_i64 hk hK)
  rw [ha k hK] at hv
  cases hf : f k with
  | none =>
    rw [hf] at hv
    injection hv with hv
    injection hv with hv _
    injection hv with hv
    rw [hrun, hv]
    rfl
  | some u =>
    rw [hf] at hv
    injection hv with hv
    injection hv with hv _
    injection hv with hv
    rw [hrun, hv]
    rfl
theorem wpList_tab (w : World) {ops : Array Oper} {rest : List Oper} {o : Oper} {a : Act} {Q : Exit → Act → World → Prop} (hg : o.guard = none) (x y z : Operand) {t e : TypeId} (hop : o.op = Op.mapUpdate t x y z)
    (hx : a.eval x = .map (some m)) (h : Tab P kt w m n f) (hk : P.underlying kt = some (.int .i64)) (ht : P.underlying t = some (.map kt e)) (k : Int) (v : Value) (hy : a.eval y = .int .i64 k) (hz : a.eval z = v) (hK : In64 k) (hl : n < maxLen)
    (hC : ∀ w', Tab P kt w' m (n + 1) (fun j => if j = k then some v else f j) → Fr (At1 m) w w' → wpList P ops Q rest (a.put o.dst undef) w') : wpList P ops Q (o :: rest) a w := by
  refine wpList_plain hg fun K' hK' => ?_
  obtain ⟨w', hrun, r1, r2⟩ := h.put hk ht hl k hK v
  unfold Oper.wp
  simp [execOp, hop, hx, hy, hz, hrun, Result.andThen]
  exact hK' _ _ (hC w' r1 r2)
end
end Go.My

namespace Go.My
open Go Go.RowKit
set_option linter.unusedSimpArgs false
set_option linter.unusedVariables false

/-- what has not come up yet -/
def unl (l : Array Bool) : Nat := l.countP (fun b => b == false)
theorem unl_set {l : Array Bool} {i : Nat} (h : l.getD i true = false) : unl (l.setIfInBounds i true) + 1 = unl l := by
  have hlt : i < l.size := by
    rcases Nat.lt_or_ge i l.size with h' | h'
    · exact h'
    · simp [h'] at h
  have hv : l[i] = false := by simpa [hlt] using h
  have e : l.setIfInBounds i true = l.set i true hlt := by simp [Array.setIfInBounds, hlt]
  unfold unl
  rw [e, Array.countP_set hlt, hv]
  simp only [beq_self_eq_true, if_true]
  have hpos : 0 < l.countP (fun b => b == false) := Array.countP_pos_iff.2 ⟨l[i], Array.getElem_mem hlt, by rw [hv]; rfl⟩
  have : (true == false) = false := rfl
  rw [this]
  simp only [Bool.false_eq_true, if_false]
  omega
theorem unl_zero {l : Array Bool} (h : unl l = 0) (i : Nat) : l.getD i true = true := by
  rcases Nat.lt_or_ge i l.size with h' | h'
  · have := Array.countP_eq_zero.1 h l[i] (Array.getElem_mem h')
    simpa [h'] using this
  · simp [h']
theorem unl_least {l : Array Bool} (h : unl l ≠ 0) : ∃ i, i < l.size ∧ l.getD i true = false ∧ ∀ j, j < i → l.getD j false = true := by
  obtain ⟨b, hb, hb2⟩ := Array.countP_pos_iff.1 (Nat.pos_of_ne_zero h)
  obtain ⟨k, hk, rfl⟩ := Array.getElem_of_mem hb
  have hk2 : l.getD k true = false := by simpa [hk] using hb2
  clear hb hb2 h
  induction k using Nat.strongRecOn with
  | _ k ih =>
    by_cases hx : ∃ j, j < k ∧ l.getD j false = false
    · obtain ⟨j, hj, hjf⟩ := hx
      have hjl : j < l.size := by omega
      exact ih j hj hjl (by simpa [hjl] using hjf)
    · refine ⟨k, hk, hk2, fun j hj => ?_⟩
      cases hq : l.getD j false with
      | true => rfl
      | false => exact absurd ⟨j, hj, hq⟩ hx
section
variable {P : Program} {ops : Array Oper} {Q : Exit → Act → World → Prop} {md : Region.Mode}
theorem wpAny_inv (Inv : Array Bool → Act → World → Prop) (hsz : ∀ l a w, Inv l a w → l.size = ops.size)
    (hback : ∀ i o, ops[i]? = some o → ∀ e ∈ o.after, Region.binds md e = true → e.on < i)
    (hstep : ∀ l a w i o, Inv l a w → ops[i]? = some o → l.getD i true = false → (∀ e ∈ o.after, Region.binds md e = true → l.getD e.on false = true) → wpOp P ops Q i (Inv (l.setIfInBounds i true)) a w)
    (hend : ∀ l a w, Inv l a w → (∀ i, i < ops.size → l.getD i false = true) → Q .normal a w) :
    ∀ fuel l a w, Inv l a w → unl l = fuel → wpAny P md ops Q fuel l a w := by
  intro fuel
  induction fuel with
  | zero =>
    intro l a w h hu
    refine ⟨?_, hend l a w h fun i hi => ?_⟩
    · cases hr : Region.ready md ops l with
      | nil => rfl
      | cons j t =>
        have hj : j ∈ Region.ready md ops l := by rw [hr]; exact List.mem_cons_self
        have h1 := (mem_ready.1 hj).1
        rw [unl_zero hu j] at h1
        cases h1
    · have h1 := unl_zero hu i
      have h2 : i < l.size := by rw [hsz l a w h]; exact hi
      simpa [h2] using h1
  | succ fuel ih =>
    intro l a w h hu
    refine ⟨fun hr => ?_, fun i hi => ?_⟩
    · obtain ⟨i, hi, hf, hlt⟩ := unl_least (l := l) (by omega)
      have hio : i < ops.size := by rw [← hsz l a w h]; exact hi
      have : i ∈ Region.ready md ops l := mem_ready.2 ⟨hf, ops[i], Array.getElem?_eq_getElem hio, fun e he hb => hlt _ (hback i _ (Array.getElem?_eq_getElem hio) e he hb)⟩
      rw [hr] at this
      cases this
    · obtain ⟨hf, o, ho, hall⟩ := mem_ready.1 hi
      refine wpOp_mono (fun a' w' h' => ih _ _ _ h' ?_) (hstep l a w i o h ho hf hall)
      have := unl_set hf
      omega
theorem wp_region_inv {id : Nat} {a : Act} {w : World} (hm : P.follows .mixedOrders = true) (Inv : Array Bool → Act → World → Prop) (hsz : ∀ l a w, Inv l a w → l.size = ops.size)
    (hback : ∀ i o, ops[i]? = some o → ∀ e ∈ o.after, Region.binds .any e = true → e.on < i)
    (hstep : ∀ l a w i o, Inv l a w → ops[i]? = some o → l.getD i true = false → (∀ e ∈ o.after, Region.binds .any e = true → l.getD e.on false = true) → wpOp P ops Q i (Inv (l.setIfInBounds i true)) a w)
    (hend : ∀ l a w, Inv l a w → (∀ i, i < ops.size → l.getD i false = true) → Q .normal a w)
    (h0 : Inv (Array.replicate ops.size false) a w.drew) : (Code.region id ops true).wp P Q a w := by
  refine wp_region_any hm (wpAny_inv Inv hsz hback hstep hend _ _ _ _ h0 ?_)
  unfold unl
  rw [Array.countP_replicate]
  simp
end
end Go.My

namespace Go.My
open Go
set_option linter.unusedVariables false

/-- a world of a class -/
structure WIn (D : World → Prop) where
  W : World
  h : D W
theorem wp_region_in {P : Program} {D : World → Prop} {id : Nat} {Q : Exit → Act → World → Prop} {a : Act} {w : World} {l : List Oper} (hm : P.follows .mixedOrders = true) (hB : Region.lexB .any l.toArray = true) (hD : D w.drew)
    (h : wpQuiet P l.toArray (fun w' => ∃ x : WIn D, w' = x.W) (fun a' => ∀ w', (∃ x : WIn D, w' = x.W) → Q .normal a' w') l a) : (Code.region id l.toArray true).wp P Q a w :=
  wp_region_quiet (C := fun w' => ∃ x : WIn D, w' = x.W) hm hB ⟨⟨_, hD⟩, rfl⟩ (by simpa using h)
/-- a callee that keeps to the class -/
theorem Calls.in_of {P : Program} {D : World → Prop} {f : FuncId} {args : Array Value} {v : Value} (x : WIn D) (h : ∀ W, D W → Calls P f args W fun e w' => e = .returned v ∧ D w') :
    Calls P f args x.W fun e w' => e = .returned v ∧ ∃ y : WIn D, w' = y.W :=
  (h x.W x.h).mono fun _ w' h => ⟨h.1, ⟨w', h.2⟩, rfl⟩
end Go.My

namespace Go.My
open Go
/-- region number n of a code -/
def findR (n : Nat) : Code → Option Code
  | .region i ops d => if i = n then some (.region i ops d) else none
  | .seq a b => match findR n a with
    | some c => some c
    | none => findR n b
  | .cond _ a b => match findR n a with
    | some c => some c
    | none => findR n b
  | .block _ c => findR n c
  | .loop c => findR n c
  | .scope c => findR n c
  | _ => none
def opsOf : Code → Array Oper
  | .region _ o _ => o
  | _ => #[]
def regOf (n : Nat) (f : Func) : Code := (f.body.bind (findR n)).getD .skip
end Go.My

namespace Go.Proofs.YtkkhdjchfhmliaaGreat
open Go.RowKit Go.My Go.Maps
set_option linter.unusedSimpArgs false
set_option linter.unusedVariables false

def fnV (f : FuncId) : Value := .func (.func f) #[] #[]
/-- the functions that look at the fields of a kind's orders -/
def shp (a b c d e f g : FuncId) : Array Value := #[fnV a, fnV b, fnV c, fnV d, fnV e, fnV f, fnV g]

/-- what a slot holds when so much is done -/
def shSlot (p : Nat) (E : Array Value) (g : Nat → Nat) (L : Nat → Bool) (k : Nat) : Value :=
  if k = 0 then .map none else if k = 1 then .pointer (some ⟨p, 0, none⟩) else if k < 9 then (if L (k + 5) then .pointer (some ⟨g (k - 2), 0, none⟩) else undef)
  else if k = 9 then .agg E else if k < 17 then (if L (k - 10) then .agg E else undef) else undef
def zs7 : Array Value := #[.nilFunc, .nilFunc, .nilFunc, .nilFunc, .nilFunc, .nilFunc, .nilFunc]
structure ShInv (w0 : World) (p : Nat) (E : Array Value) (l : Array Bool) (a : Act) (w : World) : Prop where
  size : l.size = 21
  len : a.tmps.size = 42
  defs : a.defers = []
  src : Blk w p 103 E
  fr : Fr No w0 w
  dep : ∀ j, j < 7 → l.getD (14 + j) false = true → l.getD (7 + j) false = true
  mem : ∃ g : Nat → Nat, (∀ k, k < 42 → a.tmps[k]? = some (shSlot p E g (fun i => l.getD i false) k)) ∧
    (∀ j, j < 7 → l.getD (7 + j) false = true → w0.heap.size ≤ g j ∧ Blk w (g j) 103 (if l.getD (14 + j) false = true then E else zs7)) ∧
    (∀ j k, j < 7 → k < 7 → l.getD (7 + j) false = true → l.getD (7 + k) false = true → g j = g k → j = k)

theorem ex_load {ρ : Operand → Value} {o : Oper} {x : Operand} {p : Nat} {w : World} {c0 c1 c2 c3 c4 c5 c6 : Value} (hop : o.op = .load 103 x) (hx : ρ x = .pointer (some ⟨p, 0, none⟩)) (hb : Blk w p 103 #[c0, c1, c2, c3, c4, c5, c6]) :
    (execOp ρ o).run Tryz.prog w = .ok (.value (.agg #[c0, c1, c2, c3, c4, c5, c6])) w := by
  have h0 := hb.cell 0
  have h1 := hb.cell 1
  have h2 := hb.cell 2
  have h3 := hb.cell 3
  have h4 := hb.cell 4
  have h5 := hb.cell 5
  have h6 := hb.cell 6
  simp only [List.getElem?_toArray, List.getElem?_cons_zero, List.getElem?_cons_succ] at h0 h1 h2 h3 h4 h5 h6
  unfold execOp
  rw [hop]
  simp [hx, go_sem, h0, h1, h2, h3, h4, h5, h6]
theorem ex_alloc {ρ : Operand → Value} {o : Oper} {w : World} (hop : o.op = .alloc 103) :
    (execOp ρ o).run Tryz.prog w = .ok (.value (.pointer (some ⟨w.heap.size, 0, none⟩))) (w.alloc (.cells zs7 103)) := by
  unfold execOp
  rw [hop]
  simp [go_sem, zs7]
noncomputable def sh2s : { c : Code // regOf 2 Tryz.f48 = c } := ⟨_, by conv => lhs; whnf⟩
noncomputable def sh2 : Code := sh2s.1
def okB (i : Nat) (o : Oper) : Bool :=
  o.after.all (fun e => !Region.binds .any e || decide (e.on < i)) &&
  match o.op, o.dst, o.guard with
  | .load t (.tmp x), some d, none => decide (i < 7) && decide (t = 103) && decide (x = 1) && decide (d = 10 + i)
  | .alloc t, some d, none => decide (7 ≤ i) && decide (i < 14) && decide (t = 103) && decide (d + 5 = i)
  | .store t (.tmp x) (.tmp y), none, none => decide (14 ≤ i) && decide (i < 21) && decide (t = 103) && decide (x + 12 = i) && decide (y + 4 = i) && o.after.toList.any (fun e => decide (e.on + 7 = i) && Region.binds .any e) && o.after.toList.any (fun e => decide (e.on + 14 = i) && Region.binds .any e)
  | _, _, _ => false
theorem sh2_ok : (opsOf sh2).toList.zipIdx.all (fun x => okB x.2 x.1) = true := by kernel_rfl
theorem sh2_size : (opsOf sh2).size = 21 := by kernel_rfl
theorem sh2_at {i : Nat} {o : Oper} (h : (opsOf sh2)[i]? = some o) : okB i o = true := by
  have h1 := List.all_eq_true.1 sh2_ok (o, i) (by
    rw [List.mem_zipIdx_iff_getElem?]
    simpa using h)
  exact h1
theorem okB_back {i : Nat} {o : Oper} (h : okB i o = true) : ∀ e ∈ o.after, Region.binds .any e = true → e.on < i := by
  intro e he hb
  unfold okB at h
  rw [Bool.and_eq_true, Array.all_eq_true_iff_forall_mem] at h
  have := h.1 e he
  rw [hb] at this
  simpa using this
theorem tmp5 (d i : Nat) (h : d + 5 = i) (h7 : 7 ≤ i) : d = i - 7 + 2 := by omega
theorem tmp12 (d i : Nat) (h : d + 12 = i) (h7 : 14 ≤ i) : d = i - 14 + 2 := by omega
theorem tmp4 (d i : Nat) (h : d + 4 = i) (h7 : 14 ≤ i) : d = 10 + (i - 14) := by omega
/-- the three kinds of operations -/
theorem okB_kind {i : Nat} {o : Oper} (h : okB i o = true) : o.guard = none ∧
    ((i < 7 ∧ o.op = .load 103 (.tmp 1) ∧ o.dst = some (10 + i)) ∨
     (∃ j, j < 7 ∧ i = 7 + j ∧ o.op = .alloc 103 ∧ o.dst = some (j + 2)) ∨
     (∃ j, j < 7 ∧ i = 14 + j ∧ o.op = .store 103 (.tmp (j + 2)) (.tmp (10 + j)) ∧ o.dst = none ∧ (∃ e ∈ o.after, e.on = 7 + j ∧ Region.binds .any e = true) ∧ ∃ e ∈ o.after, e.on = j ∧ Region.binds .any e = true)) := by
  unfold okB at h
  rw [Bool.and_eq_true] at h
  obtain ⟨-, h⟩ := h
  split at h
  · rename_i t x d hop hd hg
    simp only [Bool.and_eq_true, decide_eq_true_eq] at h
    obtain ⟨⟨⟨h1, rfl⟩, rfl⟩, rfl⟩ := h
    exact ⟨hg, .inl ⟨h1, hop, hd⟩⟩
  · rename_i t d hop hd hg
    simp only [Bool.and_eq_true, decide_eq_true_eq] at h
    obtain ⟨⟨⟨h1, h2⟩, rfl⟩, h3⟩ := h
    exact ⟨hg, .inr (.inl ⟨i - 7, by omega, by omega, hop, by rw [hd, show d = i - 7 + 2 from tmp5 d i h3 h1]⟩)⟩
  · rename_i t x y hop hd hg
    simp only [Bool.and_eq_true, decide_eq_true_eq, List.any_eq_true, Array.mem_toList_iff] at h
    obtain ⟨⟨⟨⟨⟨⟨h1, h2⟩, rfl⟩, h3⟩, h4⟩, e1, he1, h5, h6⟩, e2, he2, h7, h8⟩ := h
    refine ⟨hg, .inr (.inr ⟨i - 14, by omega, by omega, ?_, hd, ⟨e1, he1, by omega, h6⟩, e2, he2, by omega, h8⟩)⟩
    rw [hop, show x = i - 14 + 2 from tmp12 x i h3 h1, show y = 10 + (i - 14) from tmp4 y i h4 h1]
  · cases h
theorem getD_set (l : Array Bool) (i n : Nat) (hi : i < l.size) : (l.setIfInBounds i true).getD n false = ((n == i) || l.getD n false) := by
  by_cases e : n = i
  · subst e
    simp [hi]
  · rw [getD_set_ne false (fun h => e h.symm)]
    simp [e]
theorem slot_other {p : Nat} {E : Array Value} {g g' : Nat → Nat} {L L' : Nat → Bool} {k : Nat} (h1 : ∀ n, n < 21 → (n + 10 = k ∧ k < 17) ∨ (n = k + 5 ∧ 2 ≤ k ∧ k < 9) → L' n = L n) (h2 : ∀ n, n + 2 = k → g' n = g n) : shSlot p E g' L' k = shSlot p E g L k := by
  unfold shSlot
  by_cases c0 : k = 0
  · rw [if_pos c0, if_pos c0]
  rw [if_neg c0, if_neg c0]
  by_cases c1 : k = 1
  · rw [if_pos c1, if_pos c1]
  rw [if_neg c1, if_neg c1]
  by_cases c9 : k < 9
  · rw [if_pos c9, if_pos c9, h1 (k + 5) (by omega) (.inr ⟨rfl, by omega, by omega⟩), h2 (k - 2) (by omega)]
  rw [if_neg c9, if_neg c9]
  by_cases d9 : k = 9
  · rw [if_pos d9, if_pos d9]
  rw [if_neg d9, if_neg d9]
  by_cases c17 : k < 17
  · rw [if_pos c17, if_pos c17, h1 (k - 10) (by omega) (.inl ⟨by omega, by omega⟩)]
  rw [if_neg c17, if_neg c17]
theorem put_at {a : Act} {d k : Nat} {v : Value} (hd : d < a.tmps.size) : (a.put (some d) v).tmps[k]? = if k = d then some v else a.tmps[k]? := by
  unfold Act.put
  simp only
  by_cases e : k = d
  · subst e
    simp [hd]
  · rw [if_neg e, Array.getElem?_setIfInBounds_ne (fun h => e h.symm)]
theorem eval_at {a : Act} {k : Nat} {v : Value} (h : a.tmps[k]? = some v) : a.eval (.tmp k) = v := by
  unfold Act.eval
  simp [h]
theorem oneF (c0 c1 c2 c3 c4 c5 c6 : FuncId) : (shp c0 c1 c2 c3 c4 c5 c6).all (·.oneCell') = true := by simp [shp, fnV, Value.oneCell']
theorem sh_step {w0 : World} {p : Nat} {Q : Exit → Act → World → Prop} {c0 c1 c2 c3 c4 c5 c6 : FuncId} (hp : p < w0.heap.size) (l : Array Bool) (a : Act) (w : World) (i : Nat) (o : Oper)
    (h : ShInv w0 p (shp c0 c1 c2 c3 c4 c5 c6) l a w) (ho : (opsOf sh2)[i]? = some o) (hf : l.getD i true = false) (hall : ∀ e ∈ o.after, Region.binds .any e = true → l.getD e.on false = true) :
    wpOp Tryz.prog (opsOf sh2) Q i (ShInv w0 p (shp c0 c1 c2 c3 c4 c5 c6) (l.setIfInBounds i true)) a w := by
  obtain ⟨hg, hk⟩ := okB_kind (sh2_at ho)
  have hlt : i < l.size := by
    have := (Array.getElem?_eq_some_iff.1 ho).1
    rw [sh2_size] at this
    rw [h.size]
    exact this
  have hff : l.getD i false = false := by simpa [hlt] using hf
  obtain ⟨g, m1, m2, m3⟩ := h.mem
  have hL := fun n => getD_set l i n hlt
  refine wpOp_step ho fun K' hK => ?_
  rw [if_pos (by unfold Region.wanted; rw [hg])]
  rcases hk with ⟨hi, hop, hd⟩ | ⟨j, hj, rfl, hop, hd⟩ | ⟨j, hj, rfl, hop, hd, ⟨e1, he1, he2, he3⟩, e4, he4, he5, he6⟩
  · unfold Oper.wp
    rw [ex_load hop (eval_at (m1 1 (by omega))) h.src, Oper.upon_value, hd]
    refine hK _ _ ⟨by simpa using h.size, by simpa [Act.put] using h.len, by simpa [Act.put] using h.defs, h.src, h.fr, fun j hj hl => ?_, g, fun k hk => ?_, fun j hj hl => ?_, fun j k hj hk h1 h2 => ?_⟩
    · rw [hL, show (14 + j == i) = false from beq_eq_false_iff_ne.2 (by omega), Bool.false_or] at hl
      rw [hL, h.dep j hj hl, Bool.or_true]
    · rw [put_at (by rw [h.len]; omega)]
      by_cases e : k = 10 + i
      · rw [if_pos e]
        unfold shSlot
        rw [if_neg (by omega), if_neg (by omega), if_neg (by omega), if_neg (by omega), if_pos (by omega)]
        simp only [hL]
        rw [show k - 10 = i by omega]
        simp [shp]
      · rw [if_neg e, m1 k hk]
        congr 1
        refine (slot_other (fun n hn hn2 => ?_) (fun _ _ => rfl)).symm
        show (l.setIfInBounds i true).getD n false = _
        rw [hL]
        have : (n == i) = false := beq_eq_false_iff_ne.2 (by omega)
        rw [this]
        rfl
    · rw [hL] at hl
      have : (7 + j == i) = false := beq_eq_false_iff_ne.2 (by omega)
      rw [this, Bool.false_or] at hl
      obtain ⟨r1, r2⟩ := m2 j hj hl
      rw [hL, show (14 + j == i) = false from beq_eq_false_iff_ne.2 (by omega), Bool.false_or]
      exact ⟨r1, r2⟩
    · rw [hL, show (7 + j == i) = false from beq_eq_false_iff_ne.2 (by omega), Bool.false_or] at h1
      rw [hL, show (7 + k == i) = false from beq_eq_false_iff_ne.2 (by omega), Bool.false_or] at h2
      exact m3 j k hj hk h1 h2
  · unfold Oper.wp
    rw [ex_alloc hop, Oper.upon_value, hd]
    have h14 : l.getD (14 + j) false = false := by
      cases hq : l.getD (14 + j) false with
      | false => rfl
      | true => rw [h.dep j hj hq] at hff; cases hff
    have hsz := h.fr.size
    refine hK _ _ ⟨by simpa using h.size, by simpa [Act.put] using h.len, by simpa [Act.put] using h.defs, h.src.alloc _, h.fr.alloc _, fun k hk hl => ?_, fun k => if k = j then w.heap.size else g k, fun k hk => ?_, fun k hk hl => ?_, fun k n hk hn h1 h2 he => ?_⟩
    · rw [hL, show (14 + k == 7 + j) = false from beq_eq_false_iff_ne.2 (by omega), Bool.false_or] at hl
      rw [hL, h.dep k hk hl]
      simp
    · rw [put_at (by rw [h.len]; omega)]
      by_cases e : k = j + 2
      · rw [if_pos e]
        unfold shSlot
        rw [if_neg (by omega), if_neg (by omega), if_pos (by omega)]
        simp only [hL]
        rw [show k + 5 = 7 + j by omega]
        simp [show k - 2 = j by omega]
      · rw [if_neg e, m1 k hk]
        congr 1
        refine (slot_other (fun n hn hn2 => ?_) (fun n hn => ?_)).symm
        · show (l.setIfInBounds (7 + j) true).getD n false = _
          rw [hL]
          have : (n == 7 + j) = false := beq_eq_false_iff_ne.2 (by omega)
          rw [this]
          rfl
        · show (if n = j then w.heap.size else g n) = g n
          rw [if_neg (by omega)]
    · rw [hL, show (14 + k == 7 + j) = false from beq_eq_false_iff_ne.2 (by omega), Bool.false_or]
      show w0.heap.size ≤ (if k = j then w.heap.size else g k) ∧ Blk _ (if k = j then w.heap.size else g k) _ _
      by_cases e : k = j
      · subst e
        rw [if_pos rfl, h14]
        exact ⟨hsz, Blk.new w _ _⟩
      · rw [if_neg e]
        rw [hL, show (7 + k == 7 + j) = false from beq_eq_false_iff_ne.2 (by omega), Bool.false_or] at hl
        obtain ⟨r1, r2⟩ := m2 k hk hl
        exact ⟨r1, r2.alloc _⟩
    · have ho : ∀ k, k < 7 → k ≠ j → (l.setIfInBounds (7 + j) true).getD (7 + k) false = true → g k < w.heap.size ∧ l.getD (7 + k) false = true := fun k hk hne hl => by
        rw [hL, show (7 + k == 7 + j) = false from beq_eq_false_iff_ne.2 (by omega), Bool.false_or] at hl
        exact ⟨(m2 k hk hl).2.lt, hl⟩
      simp only at he
      by_cases e1 : k = j
      · by_cases e2 : n = j
        · omega
        · rw [if_pos e1, if_neg e2] at he
          have := (ho n hn e2 h2).1
          omega
      · by_cases e2 : n = j
        · rw [if_neg e1, if_pos e2] at he
          have := (ho k hk e1 h1).1
          omega
        · rw [if_neg e1, if_neg e2] at he
          exact m3 k n hk hn (ho k hk e1 h1).2 (ho n hn e2 h2).2 he
  · have l7 : l.getD (7 + j) false = true := by rw [← he2]; exact hall e1 he1 he3
    have l0 : l.getD j false = true := by rw [← he5]; exact hall e4 he4 he6
    obtain ⟨r1, r2⟩ := m2 j hj l7
    rw [hff] at r2
    have x1 : a.eval (.tmp (j + 2)) = .pointer (some ⟨g j, 0, none⟩) := by
      refine eval_at ((m1 (j + 2) (by omega)).trans ?_)
      unfold shSlot
      rw [if_neg (by omega), if_neg (by omega), if_pos (by omega), show j + 2 + 5 = 7 + j by omega]
      simp [l7, show j + 2 - 2 = j by omega]
    have x2 : a.eval (.tmp (10 + j)) = .agg (shp c0 c1 c2 c3 c4 c5 c6) := by
      refine eval_at ((m1 (10 + j) (by omega)).trans ?_)
      unfold shSlot
      rw [if_neg (by omega), if_neg (by omega), if_neg (by omega), if_neg (by omega), if_pos (by omega), show 10 + j - 10 = j by omega]
      simp [l0]
    refine wp_store_row 103 _ _ hop (g j) (shp c0 c1 c2 c3 c4 c5 c6) x1 x2 103 zs7 r2 (by kernel_rfl) rfl (oneF _ _ _ _ _ _ _) ?_
    have hpg : p ≠ g j := by omega
    have hfr : Fr (At1 (g j)) w (w.setRow (g j) (shp c0 c1 c2 c3 c4 c5 c6)) := Fr.setRow (S := At1 (g j)) (Fr.refl _ w) (fun _ => rfl) _
    rw [hd]
    refine hK _ _ ⟨by simpa using h.size, h.len, h.defs, h.src.fr hfr hpg, h.fr.setRow (fun hlt => by omega) _, fun k hk hl => ?_, g, fun k hk => ?_, fun k hk hl => ?_, fun k n hk hn h1 h2 he => ?_⟩
    · rw [hL, show (7 + k == 14 + j) = false from beq_eq_false_iff_ne.2 (by omega), Bool.false_or]
      by_cases e : k = j
      · subst e; exact l7
      · rw [hL, show (14 + k == 14 + j) = false from beq_eq_false_iff_ne.2 (by omega), Bool.false_or] at hl
        exact h.dep k hk hl
    · show a.tmps[k]? = _
      rw [m1 k hk]
      congr 1
      refine (slot_other (fun n hn hn2 => ?_) (fun _ _ => rfl)).symm
      show (l.setIfInBounds (14 + j) true).getD n false = _
      rw [hL]
      have : (n == 14 + j) = false := beq_eq_false_iff_ne.2 (by omega)
      rw [this]
      rfl
    · rw [hL, show (7 + k == 14 + j) = false from beq_eq_false_iff_ne.2 (by omega), Bool.false_or] at hl
      obtain ⟨s1, s2⟩ := m2 k hk hl
      refine ⟨s1, ?_⟩
      by_cases e : k = j
      · subst e
        rw [hL, show (14 + k == 14 + k) = true from beq_self_eq_true _, Bool.true_or, if_pos rfl]
        exact setRow_heap w (g k) _ _ _ _ r2
      · rw [hL, show (14 + k == 14 + j) = false from beq_eq_false_iff_ne.2 (by omega), Bool.false_or]
        exact s2.fr hfr (fun e2 => e (m3 k j hk hj hl l7 e2))
    · rw [hL, show (7 + k == 14 + j) = false from beq_eq_false_iff_ne.2 (by omega), Bool.false_or] at h1
      rw [hL, show (7 + n == 14 + j) = false from beq_eq_false_iff_ne.2 (by omega), Bool.false_or] at h2
      exact m3 k n hk hn h1 h2 he

def shFrame (p : Nat) (E : Array Value) (g : Nat → Nat) : Array Value :=
  #[.map none, .pointer (some ⟨p, 0, none⟩), .pointer (some ⟨g 0, 0, none⟩), .pointer (some ⟨g 1, 0, none⟩), .pointer (some ⟨g 2, 0, none⟩), .pointer (some ⟨g 3, 0, none⟩), .pointer (some ⟨g 4, 0, none⟩), .pointer (some ⟨g 5, 0, none⟩), .pointer (some ⟨g 6, 0, none⟩), .agg E,
    .agg E, .agg E, .agg E, .agg E, .agg E, .agg E, .agg E, undef, undef, undef, undef, undef, undef, undef, undef, undef, undef, undef, undef, undef, undef, undef, undef, undef, undef, undef, undef, undef, undef, undef, undef, undef]
theorem sh_region {w : World} {p : Nat} {Q : Exit → Act → World → Prop} {c0 c1 c2 c3 c4 c5 c6 : FuncId} (hb : Blk w p 103 (shp c0 c1 c2 c3 c4 c5 c6))
    (hQ : ∀ (g : Nat → Nat) w', (∀ j, j < 7 → w.heap.size ≤ g j ∧ Blk w' (g j) 103 (shp c0 c1 c2 c3 c4 c5 c6)) → (∀ j k, j < 7 → k < 7 → g j = g k → j = k) → Fr No w w' → Q .normal ⟨shFrame p (shp c0 c1 c2 c3 c4 c5 c6) g, []⟩ w') :
    Code.wp Tryz.prog sh2 Q ⟨#[.map none, .pointer (some ⟨p, 0, none⟩), undef, undef, undef, undef, undef, undef, undef, .agg (shp c0 c1 c2 c3 c4 c5 c6),
      undef, undef, undef, undef, undef, undef, undef, undef, undef, undef, undef, undef, undef, undef, undef, undef, undef, undef, undef, undef, undef, undef, undef, undef, undef, undef, undef, undef, undef, undef, undef, undef], []⟩ w := by
  have e : sh2 = .region 2 (opsOf sh2) true := by kernel_rfl
  rw [e]
  refine wp_region_inv (by kernel_rfl) (ShInv w p (shp c0 c1 c2 c3 c4 c5 c6)) (fun l a w' h => by rw [h.size, sh2_size]) (fun i o ho => okB_back (sh2_at ho)) (fun l a w' i o h ho hf hall => sh_step hb.lt l a w' i o h ho hf hall) (fun l a w' h hl => ?_) ?_
  · rw [sh2_size] at hl
    obtain ⟨g, m1, m2, m3⟩ := h.mem
    have ha : a = ⟨shFrame p (shp c0 c1 c2 c3 c4 c5 c6) g, []⟩ := by
      obtain ⟨ts, ds⟩ := a
      have hd := h.defs
      have hlen := h.len
      simp only at hd hlen m1
      subst hd
      congr 1
      refine Array.ext (by rw [hlen]; rfl) fun k hk hk2 => ?_
      have h1 := m1 k (by omega)
      rw [Array.getElem?_eq_getElem hk] at h1
      injection h1 with h1
      rw [h1]
      have hk3 : k < 42 := by omega
      clear h1 hk m1 m2 m3 hQ h e hb
      match k, hk3 with
      | 0, _ | 1, _ | 9, _ | 17, _ | 18, _ | 19, _ | 20, _ | 21, _ | 22, _ | 23, _ | 24, _ | 25, _ | 26, _ | 27, _ | 28, _ | 29, _ | 30, _ | 31, _ | 32, _ | 33, _ | 34, _ | 35, _ | 36, _ | 37, _ | 38, _ | 39, _ | 40, _ | 41, _ => rfl
      | 2, _ => simp [shSlot, shFrame, hl 7 (by omega)]
      | 3, _ => simp [shSlot, shFrame, hl 8 (by omega)]
      | 4, _ => simp [shSlot, shFrame, hl 9 (by omega)]
      | 5, _ => simp [shSlot, shFrame, hl 10 (by omega)]
      | 6, _ => simp [shSlot, shFrame, hl 11 (by omega)]
      | 7, _ => simp [shSlot, shFrame, hl 12 (by omega)]
      | 8, _ => simp [shSlot, shFrame, hl 13 (by omega)]
      | 10, _ => simp [shSlot, shFrame, hl 0 (by omega)]
      | 11, _ => simp [shSlot, shFrame, hl 1 (by omega)]
      | 12, _ => simp [shSlot, shFrame, hl 2 (by omega)]
      | 13, _ => simp [shSlot, shFrame, hl 3 (by omega)]
      | 14, _ => simp [shSlot, shFrame, hl 4 (by omega)]
      | 15, _ => simp [shSlot, shFrame, hl 5 (by omega)]
      | 16, _ => simp [shSlot, shFrame, hl 6 (by omega)]
      | n + 42, h => exact absurd h (by omega)
    rw [ha]
    refine hQ g w' (fun j hj => ?_) (fun j k hj hk => m3 j k hj hk (hl _ (by omega)) (hl _ (by omega))) h.fr
    have h2 := m2 j hj (hl _ (by omega))
    rw [hl (14 + j) (by omega)] at h2
    exact h2
  · rw [sh2_size]
    have hl0 : ∀ n, (Array.replicate 21 false).getD n false = false := fun n => by
      rcases Nat.lt_or_ge n 21 with h | h
      · simp [h]
      · simp [h]
    refine ⟨by simp, rfl, rfl, hb.drew, (Fr.refl No w).drew, fun j hj hl => (by rw [hl0] at hl; cases hl), fun _ => 0, fun k hk => ?_, fun j hj hl => (by rw [hl0] at hl; cases hl), fun j k hj hk hl => (by rw [hl0] at hl; cases hl)⟩
    unfold shSlot
    simp only [hl0]
    match k, hk with
    | 0, _ | 1, _ | 2, _ | 3, _ | 4, _ | 5, _ | 6, _ | 7, _ | 8, _ | 9, _ | 10, _ | 11, _ | 12, _ | 13, _ | 14, _ | 15, _ | 16, _ | 17, _ | 18, _ | 19, _ | 20, _ | 21, _ | 22, _ | 23, _ | 24, _ | 25, _ | 26, _ | 27, _ | 28, _ | 29, _ | 30, _ | 31, _ | 32, _ | 33, _ | 34, _ | 35, _ | 36, _ | 37, _ | 38, _ | 39, _ | 40, _ | 41, _ => rfl
    | n + 42, h => exact absurd h (by omega)
end Go.Proofs.YtkkhdjchfhmliaaGreat

namespace Go.Proofs.YtkkhdjchfhmliaaGreat
open Go.RowKit Go.My Go.Maps
set_option linter.unusedSimpArgs false
set_option linter.unusedVariables false

/-- the functions that look at the fields of a kind's orders -/
def shapeF (k : Int) : Option Value :=
  if k = 7 then some (.agg (shp 77 71 72 73 74 75 76))
  else if k = 6 then some (.agg (shp 70 71 72 73 80 75 76))
  else if k = 5 then some (.agg (shp 77 71 72 73 74 84 76))
  else if k = 4 then some (.agg (shp 77 83 82 73 80 84 76))
  else if k = 3 then some (.agg (shp 77 71 82 73 74 75 76))
  else if k = 2 then some (.agg (shp 70 71 72 79 80 75 81))
  else if k = 1 then some (.agg (shp 77 71 78 73 74 75 76))
  else none
/-- seven structs of their own -/
def S7 (w : World) (g : Nat → Nat) (F : Nat → Array Value) : Prop := ∀ j, j < 7 → Blk w (g j) 103 (F j)
def Inj7 (g : Nat → Nat) : Prop := ∀ j k, j < 7 → k < 7 → g j = g k → j = k
theorem S7.set_ {w : World} {g : Nat → Nat} {F : Nat → Array Value} (h : S7 w g F) (hi : Inj7 g) (i k : Nat) (hk : i < 7) (v : Value) : S7 (w.setCell ⟨g i, k, none⟩ v) g (fun j => if j = i then (F j).setIfInBounds k v else F j) := fun j hj => by
  by_cases e : j = i
  · subst e
    simp only [if_pos]
    exact (h j hj).set_ k v
  · simp only [if_neg e]
    exact (h j hj).far (fun e2 => e (hi j i hj hk e2)) v
theorem S7.fr {w w' : World} {g : Nat → Nat} {F : Nat → Array Value} {S : Nat → Prop} (h : S7 w g F) (hf : Fr S w w') (hn : ∀ j, j < 7 → ¬ S (g j)) : S7 w' g F := fun j hj => (h j hj).fr hf (hn j hj)
theorem S7.congr {w : World} {g : Nat → Nat} {F G : Nat → Array Value} (h : S7 w g F) (e : ∀ j, j < 7 → F j = G j) : S7 w g G := fun j hj => by rw [← e j hj]; exact h j hj
def shE : Array Value := shp 70 71 72 73 74 75 76
def shFin (j : Nat) : Array Value :=
  if j = 0 then shp 77 71 78 73 74 75 76
  else if j = 1 then shp 70 71 72 79 80 75 81
  else if j = 2 then shp 77 71 82 73 74 75 76
  else if j = 3 then shp 77 83 82 73 80 84 76
  else if j = 4 then shp 77 71 72 73 74 84 76
  else if j = 5 then shp 70 71 72 73 80 75 76
  else shp 77 71 72 73 74 75 76
set_option maxRecDepth 100000 in
set_option maxHeartbeats 4000000 in
theorem shapes_any (w : World) : Calls Tryz.prog 48 #[] w fun e w' => ∃ m, e = .returned (.map (some m)) ∧ Tab Tryz.prog 3 w' m 7 shapeF ∧ Fr No w w' := by
  have hb := Blk.new w 103 shE
  have hfw : Fr No w (w.alloc (.cells shE 103)) := (Fr.refl _ _).alloc _
  go_enter Tryz.func48, Tryz.ntmps48
  go_wp2
  refine sh_region (c0 := 70) (c1 := 71) (c2 := 72) (c3 := 73) (c4 := 74) (c5 := 75) (c6 := 76) hb fun g w2 hS hI hf2 => ?_
  have HI : Hid (Inj7 g) := hI
  have HS : Hid (S7 w2 g (fun _ => shE)) := fun j hj => (hS j hj).2
  have HG : Hid (∀ j, j < 7 → w.heap.size ≤ g j) := fun j hj => by
    have := (hS j hj).1
    rw [World.size_alloc] at this
    omega
  have HF : Hid (Fr No w w2) := hfw.trans hf2
  clear hb hfw hS hI hf2
  unfold shFrame
  have hx := HS.out 0 (by omega)
  have x0 := hx.cell 0
  have f0 := hx.frozen 0
  have x2 := hx.cell 2
  have f2 := hx.frozen 2
  simp only [shE, shp, fnV, if_true, if_false, List.getElem?_toArray, List.getElem?_cons_zero, List.getElem?_cons_succ, Array.getElem?_setIfInBounds, Nat.reduceEqDiff] at x0 x2
  go_upto_region 4 with (fail)
  have HS' := Lib.hid ((HS.out.set_ HI.out 0 0 (by omega) (.func (.func 77) #[] #[])).set_ HI.out 0 2 (by omega) (.func (.func 78) #[] #[]))
  have HF' : Hid (Fr No w _) := ((HF.out.setCell (p := ⟨g 0, 0, none⟩) (fun h => absurd h (by have := HG.out 0 (by omega); simp only; omega)) (.func (.func 77) #[] #[])).setCell (p := ⟨g 0, 2, none⟩) (fun h => absurd h (by have := HG.out 0 (by omega); simp only; omega)) (.func (.func 78) #[] #[]))
  clear hx x0 f0 x2 f2 HS HF
  have HS := HS'
  have HF := HF'
  clear HS' HF'
  generalize ((w2.setCell ⟨g 0, 0, none⟩ (.func (.func 77) #[] #[])).setCell ⟨g 0, 2, none⟩ (.func (.func 78) #[] #[])) = w3 at *
  have hx := HS.out 1 (by omega)
  have x3 := hx.cell 3
  have f3 := hx.frozen 3
  have x4 := hx.cell 4
  have f4 := hx.frozen 4
  have x6 := hx.cell 6
  have f6 := hx.frozen 6
  simp only [shE, shp, fnV, if_true, if_false, List.getElem?_toArray, List.getElem?_cons_zero, List.getElem?_cons_succ, Array.getElem?_setIfInBounds, Nat.reduceEqDiff] at x3 x4 x6
  go_upto_region 5 with (fail)
  have HS' := Lib.hid (((HS.out.set_ HI.out 1 3 (by omega) (.func (.func 79) #[] #[])).set_ HI.out 1 4 (by omega) (.func (.func 80) #[] #[])).set_ HI.out 1 6 (by omega) (.func (.func 81) #[] #[]))
  have HF' : Hid (Fr No w _) := (((HF.out.setCell (p := ⟨g 1, 3, none⟩) (fun h => absurd h (by have := HG.out 1 (by omega); simp only; omega)) (.func (.func 79) #[] #[])).setCell (p := ⟨g 1, 4, none⟩) (fun h => absurd h (by have := HG.out 1 (by omega); simp only; omega)) (.func (.func 80) #[] #[])).setCell (p := ⟨g 1, 6, none⟩) (fun h => absurd h (by have := HG.out 1 (by omega); simp only; omega)) (.func (.func 81) #[] #[]))
  clear hx x3 f3 x4 f4 x6 f6 HS HF
  have HS := HS'
  have HF := HF'
  clear HS' HF'
  generalize (((w3.setCell ⟨g 1, 3, none⟩ (.func (.func 79) #[] #[])).setCell ⟨g 1, 4, none⟩ (.func (.func 80) #[] #[])).setCell ⟨g 1, 6, none⟩ (.func (.func 81) #[] #[])) = w4 at *
  have hx := HS.out 2 (by omega)
  have x0 := hx.cell 0
  have f0 := hx.frozen 0
  have x2 := hx.cell 2
  have f2 := hx.frozen 2
  simp only [shE, shp, fnV, if_true, if_false, List.getElem?_toArray, List.getElem?_cons_zero, List.getElem?_cons_succ, Array.getElem?_setIfInBounds, Nat.reduceEqDiff] at x0 x2
  go_upto_region 6 with (fail)
  have HS' := Lib.hid ((HS.out.set_ HI.out 2 0 (by omega) (.func (.func 77) #[] #[])).set_ HI.out 2 2 (by omega) (.func (.func 82) #[] #[]))
  have HF' : Hid (Fr No w _) := ((HF.out.setCell (p := ⟨g 2, 0, none⟩) (fun h => absurd h (by have := HG.out 2 (by omega); simp only; omega)) (.func (.func 77) #[] #[])).setCell (p := ⟨g 2, 2, none⟩) (fun h => absurd h (by have := HG.out 2 (by omega); simp only; omega)) (.func (.func 82) #[] #[]))
  clear hx x0 f0 x2 f2 HS HF
  have HS := HS'
  have HF := HF'
  clear HS' HF'
  generalize ((w4.setCell ⟨g 2, 0, none⟩ (.func (.func 77) #[] #[])).setCell ⟨g 2, 2, none⟩ (.func (.func 82) #[] #[])) = w5 at *
  have hx := HS.out 3 (by omega)
  have x0 := hx.cell 0
  have f0 := hx.frozen 0
  have x1 := hx.cell 1
  have f1 := hx.frozen 1
  have x2 := hx.cell 2
  have f2 := hx.frozen 2
  simp only [shE, shp, fnV, if_true, if_false, List.getElem?_toArray, List.getElem?_cons_zero, List.getElem?_cons_succ, Array.getElem?_setIfInBounds, Nat.reduceEqDiff] at x0 x1 x2
  go_upto_region 7 with (fail)
  have HS' := Lib.hid (((HS.out.set_ HI.out 3 0 (by omega) (.func (.func 77) #[] #[])).set_ HI.out 3 1 (by omega) (.func (.func 83) #[] #[])).set_ HI.out 3 2 (by omega) (.func (.func 82) #[] #[]))
  have HF' : Hid (Fr No w _) := (((HF.out.setCell (p := ⟨g 3, 0, none⟩) (fun h => absurd h (by have := HG.out 3 (by omega); simp only; omega)) (.func (.func 77) #[] #[])).setCell (p := ⟨g 3, 1, none⟩) (fun h => absurd h (by have := HG.out 3 (by omega); simp only; omega)) (.func (.func 83) #[] #[])).setCell (p := ⟨g 3, 2, none⟩) (fun h => absurd h (by have := HG.out 3 (by omega); simp only; omega)) (.func (.func 82) #[] #[]))
  clear hx x0 f0 x1 f1 x2 f2 HS HF
  have HS := HS'
  have HF := HF'
  clear HS' HF'
  generalize (((w5.setCell ⟨g 3, 0, none⟩ (.func (.func 77) #[] #[])).setCell ⟨g 3, 1, none⟩ (.func (.func 83) #[] #[])).setCell ⟨g 3, 2, none⟩ (.func (.func 82) #[] #[])) = w6 at *
  have hx := HS.out 3 (by omega)
  have x5 := hx.cell 5
  have f5 := hx.frozen 5
  have x4 := hx.cell 4
  have f4 := hx.frozen 4
  simp only [shE, shp, fnV, if_true, if_false, List.getElem?_toArray, List.getElem?_cons_zero, List.getElem?_cons_succ, Array.getElem?_setIfInBounds, Nat.reduceEqDiff] at x5 x4
  go_upto_region 8 with (fail)
  have HS' := Lib.hid ((HS.out.set_ HI.out 3 5 (by omega) (.func (.func 84) #[] #[])).set_ HI.out 3 4 (by omega) (.func (.func 80) #[] #[]))
  have HF' : Hid (Fr No w _) := ((HF.out.setCell (p := ⟨g 3, 5, none⟩) (fun h => absurd h (by have := HG.out 3 (by omega); simp only; omega)) (.func (.func 84) #[] #[])).setCell (p := ⟨g 3, 4, none⟩) (fun h => absurd h (by have := HG.out 3 (by omega); simp only; omega)) (.func (.func 80) #[] #[]))
  clear hx x5 f5 x4 f4 HS HF
  have HS := HS'
  have HF := HF'
  clear HS' HF'
  generalize ((w6.setCell ⟨g 3, 5, none⟩ (.func (.func 84) #[] #[])).setCell ⟨g 3, 4, none⟩ (.func (.func 80) #[] #[])) = w7 at *
  have hx := HS.out 4 (by omega)
  have x0 := hx.cell 0
  have f0 := hx.frozen 0
  have x5 := hx.cell 5
  have f5 := hx.frozen 5
  simp only [shE, shp, fnV, if_true, if_false, List.getElem?_toArray, List.getElem?_cons_zero, List.getElem?_cons_succ, Array.getElem?_setIfInBounds, Nat.reduceEqDiff] at x0 x5
  go_upto_region 9 with (fail)
  have HS' := Lib.hid ((HS.out.set_ HI.out 4 0 (by omega) (.func (.func 77) #[] #[])).set_ HI.out 4 5 (by omega) (.func (.func 84) #[] #[]))
  have HF' : Hid (Fr No w _) := ((HF.out.setCell (p := ⟨g 4, 0, none⟩) (fun h => absurd h (by have := HG.out 4 (by omega); simp only; omega)) (.func (.func 77) #[] #[])).setCell (p := ⟨g 4, 5, none⟩) (fun h => absurd h (by have := HG.out 4 (by omega); simp only; omega)) (.func (.func 84) #[] #[]))
  clear hx x0 f0 x5 f5 HS HF
  have HS := HS'
  have HF := HF'
  clear HS' HF'
  generalize ((w7.setCell ⟨g 4, 0, none⟩ (.func (.func 77) #[] #[])).setCell ⟨g 4, 5, none⟩ (.func (.func 84) #[] #[])) = w8 at *
  have hx := HS.out 5 (by omega)
  have x4 := hx.cell 4
  have f4 := hx.frozen 4
  simp only [shE, shp, fnV, if_true, if_false, List.getElem?_toArray, List.getElem?_cons_zero, List.getElem?_cons_succ, Array.getElem?_setIfInBounds, Nat.reduceEqDiff] at x4
  go_upto_region 10 with (fail)
  have HS' := Lib.hid (HS.out.set_ HI.out 5 4 (by omega) (.func (.func 80) #[] #[]))
  have HF' : Hid (Fr No w _) := (HF.out.setCell (p := ⟨g 5, 4, none⟩) (fun h => absurd h (by have := HG.out 5 (by omega); simp only; omega)) (.func (.func 80) #[] #[]))
  clear hx x4 f4 HS HF
  have HS := HS'
  have HF := HF'
  clear HS' HF'
  generalize (w8.setCell ⟨g 5, 4, none⟩ (.func (.func 80) #[] #[])) = w9 at *
  have hx := HS.out 6 (by omega)
  have x0 := hx.cell 0
  have f0 := hx.frozen 0
  simp only [shE, shp, fnV, if_true, if_false, List.getElem?_toArray, List.getElem?_cons_zero, List.getElem?_cons_succ, Array.getElem?_setIfInBounds, Nat.reduceEqDiff] at x0
  go_upto_region 11 with (fail)
  have HS' := Lib.hid (HS.out.set_ HI.out 6 0 (by omega) (.func (.func 77) #[] #[]))
  have HF' : Hid (Fr No w _) := (HF.out.setCell (p := ⟨g 6, 0, none⟩) (fun h => absurd h (by have := HG.out 6 (by omega); simp only; omega)) (.func (.func 77) #[] #[]))
  clear hx x0 f0 HS HF
  have HS := HS'
  have HF := HF'
  clear HS' HF'
  generalize (w9.setCell ⟨g 6, 0, none⟩ (.func (.func 77) #[] #[])) = w10 at *
  have HS1 := Lib.hid (HS.out.congr (G := shFin) fun j hj => by match j, hj with
    | 0, _ | 1, _ | 2, _ | 3, _ | 4, _ | 5, _ | 6, _ => rfl)
  clear HS
  have HS := HS1
  clear HS1
  have HS0 := HS
  have HT : Hid (Tab Tryz.prog 3 (w10.alloc (.map #[] 0)) w10.heap.size 0 (fun _ => none)) := Tab.made w10
  have HM := Lib.hid (HF.out.alloc (.map #[] 0))
  have HS1 := Lib.hid (HS.out.fr ((Fr.refl No w10).alloc (.map #[] 0)) (fun _ _ h => h))
  clear HS
  have HS := HS1
  clear HS1
  have hmk := @run_makeMap Tryz.prog
  have HN : Hid (∀ j, j < 7 → g j ≠ w10.heap.size) := fun j hj => by
    have := (HS.out j hj).lt
    have h2 : g j < w10.heap.size := (HS0.out j hj).lt
    omega
  have HZ : Hid (w.heap.size ≤ w10.heap.size) := HF.out.size
  clear HS0
  clear HF
  have hx := HS.out 0 (by omega)
  have x00 := hx.cell 0
  have x01 := hx.cell 1
  have x02 := hx.cell 2
  have x03 := hx.cell 3
  have x04 := hx.cell 4
  have x05 := hx.cell 5
  have x06 := hx.cell 6
  simp only [shFin, shp, fnV, if_true, if_false, List.getElem?_toArray, List.getElem?_cons_zero, List.getElem?_cons_succ, Nat.reduceEqDiff] at x00 x01 x02 x03 x04 x05 x06
  clear hx
  obtain ⟨u0, hr0, hT0, hf0⟩ := HT.out.put Tryz.underlying3 Tryz.underlying105 (by unfold maxLen; omega) 1 (by unfold In64; omega) (.agg (shFin 0))
  simp only [shFin, shp, fnV, if_true, if_false, Nat.reduceEqDiff] at hr0
  have HT' := Lib.hid hT0
  have HS' := Lib.hid (HS.out.fr hf0 (fun j hj h => HN.out j hj h))
  have HM' : Hid (Fr No w u0) := HM.out.trans' hf0 (fun i hi hlt => by have : i = w10.heap.size := hi; have := HZ.out; omega)
  clear HT HS HM hT0 hf0
  have HT := HT'
  have HS := HS'
  have HM := HM'
  clear HT' HS' HM'
  have hx := HS.out 1 (by omega)
  have x10 := hx.cell 0
  have x11 := hx.cell 1
  have x12 := hx.cell 2
  have x13 := hx.cell 3
  have x14 := hx.cell 4
  have x15 := hx.cell 5
  have x16 := hx.cell 6
  simp only [shFin, shp, fnV, if_true, if_false, List.getElem?_toArray, List.getElem?_cons_zero, List.getElem?_cons_succ, Nat.reduceEqDiff] at x10 x11 x12 x13 x14 x15 x16
  clear hx
  obtain ⟨u1, hr1, hT1, hf1⟩ := HT.out.put Tryz.underlying3 Tryz.underlying105 (by unfold maxLen; omega) 2 (by unfold In64; omega) (.agg (shFin 1))
  simp only [shFin, shp, fnV, if_true, if_false, Nat.reduceEqDiff] at hr1
  have HT' := Lib.hid hT1
  have HS' := Lib.hid (HS.out.fr hf1 (fun j hj h => HN.out j hj h))
  have HM' : Hid (Fr No w u1) := HM.out.trans' hf1 (fun i hi hlt => by have : i = w10.heap.size := hi; have := HZ.out; omega)
  clear HT HS HM hT1 hf1
  have HT := HT'
  have HS := HS'
  have HM := HM'
  clear HT' HS' HM'
  have hx := HS.out 2 (by omega)
  have x20 := hx.cell 0
  have x21 := hx.cell 1
  have x22 := hx.cell 2
  have x23 := hx.cell 3
  have x24 := hx.cell 4
  have x25 := hx.cell 5
  have x26 := hx.cell 6
  simp only [shFin, shp, fnV, if_true, if_false, List.getElem?_toArray, List.getElem?_cons_zero, List.getElem?_cons_succ, Nat.reduceEqDiff] at x20 x21 x22 x23 x24 x25 x26
  clear hx
  obtain ⟨u2, hr2, hT2, hf2⟩ := HT.out.put Tryz.underlying3 Tryz.underlying105 (by unfold maxLen; omega) 3 (by unfold In64; omega) (.agg (shFin 2))
  simp only [shFin, shp, fnV, if_true, if_false, Nat.reduceEqDiff] at hr2
  have HT' := Lib.hid hT2
  have HS' := Lib.hid (HS.out.fr hf2 (fun j hj h => HN.out j hj h))
  have HM' : Hid (Fr No w u2) := HM.out.trans' hf2 (fun i hi hlt => by have : i = w10.heap.size := hi; have := HZ.out; omega)
  clear HT HS HM hT2 hf2
  have HT := HT'
  have HS := HS'
  have HM := HM'
  clear HT' HS' HM'
  have hx := HS.out 3 (by omega)
  have x30 := hx.cell 0
  have x31 := hx.cell 1
  have x32 := hx.cell 2
  have x33 := hx.cell 3
  have x34 := hx.cell 4
  have x35 := hx.cell 5
  have x36 := hx.cell 6
  simp only [shFin, shp, fnV, if_true, if_false, List.getElem?_toArray, List.getElem?_cons_zero, List.getElem?_cons_succ, Nat.reduceEqDiff] at x30 x31 x32 x33 x34 x35 x36
  clear hx
  obtain ⟨u3, hr3, hT3, hf3⟩ := HT.out.put Tryz.underlying3 Tryz.underlying105 (by unfold maxLen; omega) 4 (by unfold In64; omega) (.agg (shFin 3))
  simp only [shFin, shp, fnV, if_true, if_false, Nat.reduceEqDiff] at hr3
  have HT' := Lib.hid hT3
  have HS' := Lib.hid (HS.out.fr hf3 (fun j hj h => HN.out j hj h))
  have HM' : Hid (Fr No w u3) := HM.out.trans' hf3 (fun i hi hlt => by have : i = w10.heap.size := hi; have := HZ.out; omega)
  clear HT HS HM hT3 hf3
  have HT := HT'
  have HS := HS'
  have HM := HM'
  clear HT' HS' HM'
  have hx := HS.out 4 (by omega)
  have x40 := hx.cell 0
  have x41 := hx.cell 1
  have x42 := hx.cell 2
  have x43 := hx.cell 3
  have x44 := hx.cell 4
  have x45 := hx.cell 5
  have x46 := hx.cell 6
  simp only [shFin, shp, fnV, if_true, if_false, List.getElem?_toArray, List.getElem?_cons_zero, List.getElem?_cons_succ, Nat.reduceEqDiff] at x40 x41 x42 x43 x44 x45 x46
  clear hx
  obtain ⟨u4, hr4, hT4, hf4⟩ := HT.out.put Tryz.underlying3 Tryz.underlying105 (by unfold maxLen; omega) 5 (by unfold In64; omega) (.agg (shFin 4))
  simp only [shFin, shp, fnV, if_true, if_false, Nat.reduceEqDiff] at hr4
  have HT' := Lib.hid hT4
  have HS' := Lib.hid (HS.out.fr hf4 (fun j hj h => HN.out j hj h))
  have HM' : Hid (Fr No w u4) := HM.out.trans' hf4 (fun i hi hlt => by have : i = w10.heap.size := hi; have := HZ.out; omega)
  clear HT HS HM hT4 hf4
  have HT := HT'
  have HS := HS'
  have HM := HM'
  clear HT' HS' HM'
  have hx := HS.out 5 (by omega)
  have x50 := hx.cell 0
  have x51 := hx.cell 1
  have x52 := hx.cell 2
  have x53 := hx.cell 3
  have x54 := hx.cell 4
  have x55 := hx.cell 5
  have x56 := hx.cell 6
  simp only [shFin, shp, fnV, if_true, if_false, List.getElem?_toArray, List.getElem?_cons_zero, List.getElem?_cons_succ, Nat.reduceEqDiff] at x50 x51 x52 x53 x54 x55 x56
  clear hx
  obtain ⟨u5, hr5, hT5, hf5⟩ := HT.out.put Tryz.underlying3 Tryz.underlying105 (by unfold maxLen; omega) 6 (by unfold In64; omega) (.agg (shFin 5))
  simp only [shFin, shp, fnV, if_true, if_false, Nat.reduceEqDiff] at hr5
  have HT' := Lib.hid hT5
  have HS' := Lib.hid (HS.out.fr hf5 (fun j hj h => HN.out j hj h))
  have HM' : Hid (Fr No w u5) := HM.out.trans' hf5 (fun i hi hlt => by have : i = w10.heap.size := hi; have := HZ.out; omega)
  clear HT HS HM hT5 hf5
  have HT := HT'
  have HS := HS'
  have HM := HM'
  clear HT' HS' HM'
  have hx := HS.out 6 (by omega)
  have x60 := hx.cell 0
  have x61 := hx.cell 1
  have x62 := hx.cell 2
  have x63 := hx.cell 3
  have x64 := hx.cell 4
  have x65 := hx.cell 5
  have x66 := hx.cell 6
  simp only [shFin, shp, fnV, if_true, if_false, List.getElem?_toArray, List.getElem?_cons_zero, List.getElem?_cons_succ, Nat.reduceEqDiff] at x60 x61 x62 x63 x64 x65 x66
  clear hx
  obtain ⟨u6, hr6, hT6, hf6⟩ := HT.out.put Tryz.underlying3 Tryz.underlying105 (by unfold maxLen; omega) 7 (by unfold In64; omega) (.agg (shFin 6))
  simp only [shFin, shp, fnV, if_true, if_false, Nat.reduceEqDiff] at hr6
  have HT' := Lib.hid hT6
  have HS' := Lib.hid (HS.out.fr hf6 (fun j hj h => HN.out j hj h))
  have HM' : Hid (Fr No w u6) := HM.out.trans' hf6 (fun i hi hlt => by have : i = w10.heap.size := hi; have := HZ.out; omega)
  clear HT HS HM hT6 hf6
  have HT := HT'
  have HS := HS'
  have HM := HM'
  clear HT' HS' HM'
  clear HS HN HZ HI HG
  go_wp2
  go_ret
  exact ⟨_, rfl, HT.out, HM.out⟩
end Go.Proofs.YtkkhdjchfhmliaaGreat

namespace Go.Proofs.YtkkhdjchfhmliaaGreat
open Go.RowKit Go.My Go.Maps
set_option linter.unusedSimpArgs false
set_option linter.unusedVariables false
attribute [local go_sem ↓] Go.wp_at_zero Go.wp_at_succ

/-- answers b, and changes nothing -/
def AnsB (f : FuncId) (args : Array Value) (b : Bool) : Prop := ∀ W, Calls Tryz.prog f args W fun e w' => e = .returned (.bool b) ∧ Fr No W w'
theorem ans1 (s : ByteArray) : AnsB 70 #[.string s] s.data.toList.isEmpty := fun W => by
  go_enter Tryz.func70, Tryz.ntmps70
  go_wp2
  go_ret
  refine ⟨?_, Fr.refl _ _⟩
  rw [← ByteArray.toList_eq]
  rfl
theorem ans7 (s : ByteArray) : AnsB 76 #[.string s] s.data.toList.isEmpty := fun W => by
  go_enter Tryz.func76, Tryz.ntmps76
  go_wp2
  go_ret
  refine ⟨?_, Fr.refl _ _⟩
  rw [← ByteArray.toList_eq]
  rfl
theorem ans2 (s t : ByteArray) : AnsB 71 #[.string s, .string t] s.data.toList.isEmpty := fun W => by
  go_enter Tryz.func71, Tryz.ntmps71
  go_wp2
  go_ret
  refine ⟨?_, Fr.refl _ _⟩
  rw [← ByteArray.toList_eq]
  rfl
theorem ans3 (n : Int) : AnsB 72 #[.int .i64 n] (n == 0) := fun W => by
  go_enter Tryz.func72, Tryz.ntmps72
  go_wp2
  go_ret
  exact ⟨rfl, Fr.refl _ _⟩
theorem ans5 (n : Int) : AnsB 74 #[.int .i64 n] (n == 0) := fun W => by
  go_enter Tryz.func74, Tryz.ntmps74
  go_wp2
  go_ret
  exact ⟨rfl, Fr.refl _ _⟩
theorem ans6 (n : Int) : AnsB 75 #[.int .i64 n] (n == 0) := fun W => by
  go_enter Tryz.func75, Tryz.ntmps75
  go_wp2
  go_ret
  exact ⟨rfl, Fr.refl _ _⟩
theorem ans8 (n : Int) : AnsB 78 #[.int .i64 n] (decide (0 ≤ n)) := fun W => by
  go_enter Tryz.func78, Tryz.ntmps78
  go_wp2
  go_ret
  exact ⟨rfl, Fr.refl _ _⟩
theorem ans4 (A : Option Addr) (n c : Nat) : AnsB 73 #[.slice A n c] (n == 0) := fun W => by
  go_enter Tryz.func73, Tryz.ntmps73
  go_wp2
  go_ret
  refine ⟨?_, Fr.refl _ _⟩
  cases n <;> simp <;> omega
theorem ansSum (n : Int) : AnsB 82 #[.int .i64 n] (decide (1 ≤ n)) := fun W => by
  go_enter Tryz.func82, Tryz.ntmps82
  go_wp2
  go_ret
  exact ⟨rfl, Fr.refl _ _⟩
theorem ansPeriod (n : Int) : AnsB 80 #[.int .i64 n] (decide (1 ≤ n) && decide (n ≤ 1000)) := fun W => by
  by_cases h : 1 ≤ n
  · go_enter Tryz.func80, Tryz.ntmps80
    go_wp2
    go_ret
    exact ⟨by simp [h], Fr.refl _ _⟩
  · go_enter Tryz.func80, Tryz.ntmps80
    go_wp2
    go_ret
    exact ⟨by rw [show decide (1 ≤ n) = false from decide_eq_false (by omega)]; rfl, Fr.refl _ _⟩
theorem ansHold (n : Int) : AnsB 84 #[.int .i64 n] (decide (1 ≤ n) && decide (n ≤ 9999)) := fun W => by
  by_cases h : 1 ≤ n
  · go_enter Tryz.func84, Tryz.ntmps84
    go_wp2
    go_ret
    exact ⟨by simp [h], Fr.refl _ _⟩
  · go_enter Tryz.func84, Tryz.ntmps84
    go_wp2
    go_ret
    exact ⟨by rw [show decide (1 ≤ n) = false from decide_eq_false (by omega)]; rfl, Fr.refl _ _⟩
theorem ansNote (s : ByteArray) : AnsB 81 #[.string s] (decide (s.data.toList.length ≤ 20)) := fun W => by
  go_enter Tryz.func81, Tryz.ntmps81
  go_wp2
  go_ret
  refine ⟨?_, Fr.refl _ _⟩
  obtain ⟨⟨l⟩⟩ := s
  simp [ByteArray.size]
  omega
theorem ansName (s : ByteArray) (hs : s.size ≤ maxLen) : AnsB 77 #[.string s] (nameB s.data.toList) := fun W => (name_any s W hs).mono fun e w' h => ⟨h.1, Fr.of_below h.2 _⟩
theorem ansPeer (s t : ByteArray) (hs : s.size ≤ maxLen) : AnsB 83 #[.string s, .string t] (nameB s.data.toList && !(s.data.toList == t.data.toList)) := fun W => by
  have HN := Lib.hid (ansName s hs)
  cases hn : nameB s.data.toList
  · rw [hn] at HN
    clear hn
    go_enter Tryz.func83, Tryz.ntmps83
    go_wp2_with fail
    refine (HN.out _).mono ?_
    rintro e w1 ⟨rfl, hf⟩
    go_wp2
    go_ret
    exact ⟨rfl, hf⟩
  · rw [hn] at HN
    clear hn
    go_enter Tryz.func83, Tryz.ntmps83
    go_wp2_with fail
    refine (HN.out _).mono ?_
    rintro e w1 ⟨rfl, hf⟩
    go_wp2
    go_ret
    refine ⟨?_, hf⟩
    rw [← ByteArray.toList_eq, ← ByteArray.toList_eq]
    rfl
/-- may an Id be? -/
def idB (c s : Int) : Bool := decide (0 ≤ c) && (decide (c ≤ 9) && (decide (1 ≤ s) && decide (s ≤ 999)))
theorem ansId (c s : Int) : AnsB 49 #[.agg #[.int .i64 c, .int .i64 s]] (idB c s) := fun W => by
  have hf : Fr No W (W.alloc (.cells #[.int .i64 c, .int .i64 s] 36)) := (Fr.refl _ _).alloc _
  by_cases h1 : 0 ≤ c
  · by_cases h2 : c ≤ 9
    · by_cases h3 : 1 ≤ s
      · go_enter Tryz.func49, Tryz.ntmps49
        go_wp2
        go_ret
        exact ⟨by simp [idB, h1, h2, h3], hf⟩
      · go_enter Tryz.func49, Tryz.ntmps49
        go_wp2
        go_ret
        exact ⟨by unfold idB; rw [decide_eq_true h1, decide_eq_true h2, show decide (1 ≤ s) = false from decide_eq_false (by omega)]; rfl, hf⟩
    · go_enter Tryz.func49, Tryz.ntmps49
      go_wp2
      go_ret
      exact ⟨by unfold idB; rw [decide_eq_true h1, show decide (c ≤ 9) = false from decide_eq_false (by omega)]; rfl, hf⟩
  · go_enter Tryz.func49, Tryz.ntmps49
    go_wp2
    go_ret
    exact ⟨by unfold idB; rw [show decide (0 ≤ c) = false from decide_eq_false (by omega)]; rfl, hf⟩
end Go.Proofs.YtkkhdjchfhmliaaGreat

namespace Go.Proofs.YtkkhdjchfhmliaaGreat
open Go.RowKit Go.My Go.Maps
set_option linter.unusedSimpArgs false
set_option linter.unusedVariables false
attribute [local go_sem ↓] Go.wp_at_zero Go.wp_at_succ

/-- the first leg for which q holds -/
def idxL (q : Lg → Bool) (L : List Lg) : Int := match L.findIdx? q with | some i => (i : Int) | none => -1
def IxRel (w : World) (q : Lg → Bool) (L : List Lg) (iv : Value) (wr : World) : Prop := ∃ k : Nat, k ≤ L.length ∧ iv = .int .i64 k ∧ (∀ g ∈ L.take k, q g = false) ∧ Fr No w wr
theorem index_any (F : Nat → Prop) (A : Option Addr) (c : Nat) (cells : List Value) (L : List Lg) (f : FuncId) (bs : Array Value) (q : Lg → Bool) (w : World) (hr : Rd w F 2 A L.length cells) (hE : Each RdLg 2 cells L) (hL : L.length ≤ 1000000)
    (hf : ∀ args W, (callFunc f args).run Tryz.prog W = .ok (.enter f args) W)
    (hc : ∀ W, Fr No w W → ∀ g ∈ L, Calls Tryz.prog f (#[.agg #[.string g.acct, .int .i64 g.sum]] ++ bs) W fun e w' => e = .returned (.bool (q g)) ∧ Fr No W w') :
    Calls Tryz.prog 124 #[.slice A L.length c, .func (.func f) #[] bs] w fun e w' => e = .returned (.int .i64 (idxL q L)) ∧ Fr No w w' := by
  have HR := Lib.hid hr
  have HE := Lib.hid hE
  have HC := Lib.hid hc
  clear hr hE hc
  go_enter Tryz.func124, Tryz.ntmps124
  go_wp2
  go_loopw [8] (fun iv wr => IxRel w q L iv wr) (fun iv _ => L.length - (intOf iv).toNat)
  case atStart => exact ⟨0, Nat.zero_le _, rfl, fun g hg => by simp at hg, Fr.refl _ _⟩
  case round =>
    obtain ⟨k, hk, rfl, hall, hfr⟩ := hrel
    by_cases hlt : k < L.length
    · obtain ⟨ad, rfl, _, hok, q0, q1⟩ := lg_at (HR.out.fr (by omega) hfr fun _ _ _ h => h) HE.out k hlt hlt
      have HCK := Lib.hid fun W hW => HC.out W hW L[k] (List.getElem_mem hlt)
      have HFR := Lib.hid hfr
      have hT : q L[k] = true → idxL q L = (k : Int) := fun h => by
        unfold idxL
        rw [List.findIdx?_eq_some_iff_getElem.2 ⟨hlt, h, fun j hj => by
          have := hall L[j] (List.mem_take_iff_getElem.2 ⟨j, by omega, rfl⟩)
          simp [this]⟩]
      have hN : q L[k] = false → ∀ g ∈ L.take (k + 1), q g = false := fun h g hg => by
        rw [List.take_succ_eq_append_getElem hlt, List.mem_append] at hg
        rcases hg with hg | hg
        · exact hall g hg
        · rw [List.mem_singleton.1 hg]; exact h
      have HT := Lib.hid hT
      have HN := Lib.hid hN
      generalize L[k] = g at *
      obtain ⟨nm, sm⟩ := g
      simp only at q0 q1 HCK
      clear hall hfr hok hT hN
      cases hb : q ⟨nm, sm⟩
      · rw [hb] at HCK
        have HN2 := Lib.hid (HN.out hb)
        clear HT HN hb
        go_wp2_with fail
        refine (HCK.out _ HFR.out).mono ?_
        rintro e w1 ⟨rfl, hf1⟩
        clear q0 q1
        go_wp2
        go_roundw
        case rel => exact ⟨k + 1, by omega, by go_num, HN2.out, HFR.out.trans hf1⟩
        case measure => simp [intOf]; omega
      · rw [hb] at HCK
        have HT2 := Lib.hid (HT.out hb)
        clear HT HN hb
        go_wp2_with fail
        refine (HCK.out _ HFR.out).mono ?_
        rintro e w1 ⟨rfl, hf1⟩
        clear q0 q1
        go_wp2
        go_ret
        exact ⟨by rw [HT2.out]; rfl, HFR.out.trans hf1⟩
    · obtain rfl : k = L.length := by omega
      have HF : Hid (idxL q L = -1) := by
        show _ = _
        unfold idxL
        rw [List.take_length] at hall
        rw [List.findIdx?_eq_none_iff.2 hall]
      go_wp2
      go_ret
      exact ⟨by rw [HF.out]; rfl, hfr⟩
theorem contains_any (F : Nat → Prop) (A : Option Addr) (c : Nat) (cells : List Value) (L : List Lg) (f : FuncId) (bs : Array Value) (q : Lg → Bool) (w : World) (hr : Rd w F 2 A L.length cells) (hE : Each RdLg 2 cells L) (hL : L.length ≤ 1000000)
    (hf : ∀ args W, (callFunc f args).run Tryz.prog W = .ok (.enter f args) W)
    (hc : ∀ W, Fr No w W → ∀ g ∈ L, Calls Tryz.prog f (#[.agg #[.string g.acct, .int .i64 g.sum]] ++ bs) W fun e w' => e = .returned (.bool (q g)) ∧ Fr No W w') :
    Calls Tryz.prog 103 #[.slice A L.length c, .func (.func f) #[] bs] w fun e w' => e = .returned (.bool (L.any q)) ∧ Fr No w w' := by
  have HX := Lib.hid (index_any F A c cells L f bs q w hr hE hL hf hc)
  have HA : Hid (decide (0 ≤ idxL q L) = L.any q) := by
    show _ = _
    unfold idxL
    cases h : L.findIdx? q with
    | none =>
      rw [List.findIdx?_eq_none_iff] at h
      simp only
      rw [List.any_eq_false.2 (fun x hx => by rw [h x hx]; decide)]
      rfl
    | some i =>
      obtain ⟨hlt, hi, _⟩ := List.findIdx?_eq_some_iff_getElem.1 h
      simp only
      rw [List.any_eq_true.2 ⟨L[i], List.getElem_mem hlt, hi⟩]
      exact decide_eq_true (by omega)
  clear hr hE hf hc
  go_enter Tryz.func103, Tryz.ntmps103
  go_wp2_with fail
  refine HX.out.mono ?_
  rintro e w1 ⟨rfl, hf1⟩
  go_wp2
  go_ret
  exact ⟨by rw [← HA.out]; rfl, hf1⟩
theorem same_any (s a : ByteArray) (n : Int) (g : Nat) (w : World) (hg : w.cell? ⟨g, 0, none⟩ = some (.string a)) : Calls Tryz.prog 102 #[.agg #[.string s, .int .i64 n], .pointer (some ⟨g, 0, none⟩)] w fun e w' => e = .returned (.bool (s.data.toList == a.data.toList)) ∧ Fr No w w' := by
  have hgl := World.block_lt_of_cell? w _ hg
  simp only at hgl
  go_enter Tryz.func102, Tryz.ntmps102
  go_wp2
  go_ret
  refine ⟨?_, (Fr.refl _ _).alloc _⟩
  rw [← ByteArray.toList_eq, ← ByteArray.toList_eq]
  rfl
end Go.Proofs.YtkkhdjchfhmliaaGreat

namespace Go.Proofs.YtkkhdjchfhmliaaGreat
open Go.RowKit Go.My Go.Maps
set_option linter.unusedSimpArgs false
set_option linter.unusedVariables false
attribute [local go_sem ↓] Go.wp_at_zero Go.wp_at_succ

def RlRel (w : World) (L : List Lg) (iv : Value) (wr : World) : Prop := ∃ k : Nat, k ≤ L.length ∧ iv = .int .i64 k ∧ (L.take k).all okLg = true ∧ ((L.take k).map Lg.nm).Nodup ∧ Fr No w wr
theorem rightB_dup {L : List Lg} (h : ¬ (L.map Lg.nm).Nodup) : rightB L = false := by
  unfold rightB
  rw [decide_eq_false h]
  simp
theorem rightB_all {L : List Lg} (h : 2 ≤ L.length ∧ L.length ≤ 6) (ha : L.all okLg = true) (hd : (L.map Lg.nm).Nodup) : rightB L = true := by
  unfold rightB
  have e : L.all (fun g => nameB g.nm && decide (g.sum ≠ 0)) = true := ha
  rw [e, decide_eq_true h.1, decide_eq_true h.2, decide_eq_true hd]
  rfl
theorem any_nm (L : List Lg) (k : Nat) (hk : k < L.length) : ((L.take k).any fun g => g.acct.data.toList == L[k].acct.data.toList) = decide (L[k].nm ∈ (L.take k).map Lg.nm) := by
  rw [Bool.eq_iff_iff, List.any_eq_true, decide_eq_true_eq, List.mem_map]
  constructor
  · rintro ⟨g, hg, he⟩
    exact ⟨g, hg, by simpa [Lg.nm] using he⟩
  · rintro ⟨g, hg, he⟩
    exact ⟨g, hg, by simpa [Lg.nm] using he⟩
theorem each_take {X : Type} {R : List Value → X → Prop} {size : Nat} {cells : List Value} {T : List X} (hE : Each R size cells T) (k : Nat) (hk : k ≤ T.length) : Each R size (cells.take (k * size)) (T.take k) := by
  refine ⟨?_, fun i x hx => ?_⟩
  · have := hE.1
    rw [List.length_take, List.length_take, this]
    rw [Nat.min_eq_left (Nat.mul_le_mul_right _ hk), Nat.min_eq_left hk]
  · have hlt : i < k := by
      have := (List.getElem?_eq_some_iff.1 hx).1
      rw [List.length_take] at this
      omega
    rw [List.getElem?_take, if_pos hlt] at hx
    have h := hE.2 i x hx
    rw [List.drop_take, List.take_take, Nat.min_eq_left]
    · exact h
    · rw [← Nat.sub_mul]
      have : 1 ≤ k - i := by omega
      calc size = 1 * size := by omega
        _ ≤ (k - i) * size := Nat.mul_le_mul_right _ this

set_option maxRecDepth 100000 in
set_option maxHeartbeats 4000000 in
theorem rightLegs_any (F : Nat → Prop) (A : Option Addr) (c : Nat) (cells : List Value) (L : List Lg) (w : World) (hr : Rd w F 2 A L.length cells) (hE : Each RdLg 2 cells L) (hlc : L.length ≤ c) (hcm : c ≤ maxLen) :
    Calls Tryz.prog 79 #[.slice A L.length c] w fun e w' => e = .returned (.bool (rightB L)) ∧ Fr No w w' := by
  have HR := Lib.hid hr
  have HE := Lib.hid hE
  have HLC := Lib.hid hlc
  clear hr hE hlc
  by_cases h2 : L.length < 2
  · have HB : Hid (rightB L = false) := rightB_len (by omega)
    have h2' : (L.length : Int) < 2 := by omega
    clear h2
    go_enter Tryz.func79, Tryz.ntmps79
    go_wp2
    go_ret
    exact ⟨by rw [HB.out]; rfl, Fr.refl _ _⟩
  by_cases h6 : 6 < L.length
  · have HB : Hid (rightB L = false) := rightB_len (by omega)
    have h2' : ¬ (L.length : Int) < 2 := by omega
    have h6' : (6 : Int) < (L.length : Int) := by omega
    clear h2 h6
    go_enter Tryz.func79, Tryz.ntmps79
    go_wp2
    go_ret
    exact ⟨by rw [HB.out]; rfl, Fr.refl _ _⟩
  have HLN : Hid (2 ≤ L.length ∧ L.length ≤ 6) := ⟨by omega, by omega⟩
  have h2' : ¬ (L.length : Int) < 2 := by omega
  have h6' : ¬ (6 : Int) < (L.length : Int) := by omega
  clear h2 h6
  go_enter Tryz.func79, Tryz.ntmps79
  go_wp2
  clear h2' h6'
  go_loopw [16] (fun iv wr => RlRel w L iv wr) (fun iv _ => L.length - (intOf iv).toNat)
  case atStart => exact ⟨0, Nat.zero_le _, rfl, rfl, by simp, Fr.refl _ _⟩
  case round =>
    obtain ⟨k, hk, rfl, hall, hnd, hfr⟩ := hrel
    by_cases hlt : k < L.length
    · obtain ⟨ad, rfl, _, hok, q0, q1⟩ := lg_at (HR.out.fr (by omega) hfr fun _ _ _ h => h) HE.out k hlt hlt
      have HBAD : Hid (okLg L[k] = false → rightB L = false) := rightB_bad hlt
      have HNX : Hid (okLg L[k] = true → (L.take (k + 1)).all okLg = true) := fun h => by
        rw [List.take_succ_eq_append_getElem hlt, List.all_append, hall]
        simp [h]
      have HDUP : Hid (L[k].nm ∈ (L.take k).map Lg.nm → rightB L = false) := fun h => rightB_dup fun hd => by
        obtain ⟨g, hg, he⟩ := List.mem_map.1 h
        obtain ⟨j, hj, rfl⟩ := List.mem_take_iff_getElem.1 hg
        have h3 := List.pairwise_iff_getElem.1 hd j k (by simp; omega) (by simpa using hlt) (by omega)
        simp only [List.getElem_map] at h3
        exact h3 he
      have HND : Hid (L[k].nm ∉ (L.take k).map Lg.nm → ((L.take (k + 1)).map Lg.nm).Nodup) := fun h => by
        rw [List.take_succ_eq_append_getElem hlt, List.map_append, List.nodup_append]
        refine ⟨hnd, by simp, fun x hx y hy => ?_⟩
        simp only [List.map_cons, List.map_nil, List.mem_singleton] at hy
        rintro rfl
        rw [hy] at hx
        exact h hx
      have HAN := Lib.hid (any_nm L k hlt)
      have hlk : (L.take k).length = k := by rw [List.length_take]; omega
      have HCT : Hid (∀ W g, Fr No wr W → W.cell? ⟨g, 0, none⟩ = some (.string L[k].acct) → Calls Tryz.prog 103 #[.slice (some ad) k c, .func (.func 102) #[] #[.pointer (some ⟨g, 0, none⟩)]] W fun e w' => e = .returned (.bool ((L.take k).any fun x => x.acct.data.toList == L[k].acct.data.toList)) ∧ Fr No W w') := fun W g hW hg => by
        have h := contains_any F (some ad) c (cells.take (k * 2)) (L.take k) 102 #[.pointer (some ⟨g, 0, none⟩)] (fun x => x.acct.data.toList == L[k].acct.data.toList) W (by
          rw [hlk]
          exact ((HR.out.fr (by omega) hfr fun _ _ _ h => h).fr (by omega) hW fun _ _ _ h => h).take (by omega)) (each_take HE.out k hk) (by rw [hlk]; have := HLN.out; omega) (enters_of Tryz.func102 (by kernel_rfl) rfl) (fun W' hW' x hx => same_any x.acct L[k].acct x.sum g W' (hW'.cell_some hg (fun h => h)))
        rw [hlk] at h
        exact h
      generalize L[k] = g at *
      obtain ⟨nm, sm⟩ := g
      unfold Lg.ok at hok
      simp only at q0 q1 hok HCT
      rw [HAN.out] at HCT
      have HNM := Lib.hid (ansName nm hok.1)
      have hbx := Blk.new wr 81 #[.string nm, .int .i64 sm]
      have HBX := Lib.hid hbx
      have HFR := Lib.hid hfr
      clear hall hnd hfr hok hbx HAN hlk
      go_wp2_with fail
      refine (HNM.out _).mono ?_
      rintro e w3 ⟨rfl, hf3⟩
      have hbx3 := HBX.out.fr hf3 (fun h => h)
      have x0 := hbx3.cell 0
      have x1 := hbx3.cell 1
      simp only [List.getElem?_toArray, List.getElem?_cons_zero, List.getElem?_cons_succ] at x0 x1
      have hf03 : Fr No wr w3 := ((Fr.refl No wr).alloc _).trans hf3
      have HF3 := Lib.hid (HFR.out.trans hf03)
      have HC3 := Lib.hid (HCT.out w3 wr.heap.size hf03 x0)
      have hok1 : okLg ⟨nm, sm⟩ = (nameB nm.data.toList && decide (sm ≠ 0)) := rfl
      clear hbx3 hf3 hf03 HNM HCT
      cases hn : nameB nm.data.toList
      · have HB := Lib.hid (HBAD.out (by rw [hok1, hn]; rfl))
        clear hn hok1 HBAD HNX HDUP HND HC3
        go_wp2
        go_ret
        exact ⟨by rw [HB.out]; rfl, HF3.out⟩
      · by_cases hs : sm = 0
        · have HB := Lib.hid (HBAD.out (by rw [hok1, hn, hs]; rfl))
          subst hs
          clear hn hok1 HBAD HNX HDUP HND HC3
          go_wp2
          go_ret
          exact ⟨by rw [HB.out]; rfl, HF3.out⟩
        · have HA := Lib.hid (HNX.out (by rw [hok1, hn]; simpa using hs))
          have hkc : k ≤ c := by have := HLC.out; omega
          have hk6 : k < 6 := by have := HLN.out; omega
          have hs2 : (sm == 0) = false := beq_eq_false_iff_ne.2 hs
          by_cases hm : (⟨nm, sm⟩ : Lg).nm ∈ (L.take k).map Lg.nm
          · have HB := Lib.hid (HDUP.out hm)
            rw [decide_eq_true hm] at HC3
            clear hn hok1 HBAD HNX HDUP HND hm hs
            go_wp2_with fail
            refine HC3.out.mono ?_
            rintro e w4 ⟨rfl, hf4⟩
            go_wp2
            go_ret
            exact ⟨by rw [HB.out]; rfl, HF3.out.trans hf4⟩
          · have HN := Lib.hid (HND.out hm)
            rw [decide_eq_false hm] at HC3
            clear hn hok1 HBAD HNX HDUP HND hm hs
            go_wp2_with fail
            refine HC3.out.mono ?_
            rintro e w4 ⟨rfl, hf4⟩
            go_wp2
            go_roundw
            case rel => exact ⟨k + 1, by omega, by go_num, HA.out, HN.out, HF3.out.trans hf4⟩
            case measure => simp [intOf]; omega
    · obtain rfl : k = L.length := by omega
      have HB : Hid (rightB L = true) := rightB_all HLN.out (by rw [List.take_length] at hall; exact hall) (by rw [List.take_length] at hnd; exact hnd)
      go_wp2
      go_ret
      exact ⟨by rw [HB.out]; rfl, hfr⟩
end Go.Proofs.YtkkhdjchfhmliaaGreat

namespace Go.Proofs.YtkkhdjchfhmliaaGreat
open Go.RowKit Go.My Go.Maps
set_option linter.unusedSimpArgs false
set_option linter.unusedVariables false
attribute [local go_sem ↓] Go.wp_at_zero Go.wp_at_succ

/-- an order -/
structure Od where
  cl : Int
  sq : Int
  kd : Int
  acct : ByteArray
  peer : ByteArray
  sum : Int
  legs : List Lg
  per : Int
  hold : Int
  note : ByteArray
def Od.an (o : Od) : List UInt8 := o.acct.data.toList
def Od.pn (o : Od) : List UInt8 := o.peer.data.toList
def Od.ok (o : Od) : Prop := In64 o.cl ∧ In64 o.sq ∧ In64 o.kd ∧ o.acct.size ≤ maxLen ∧ o.peer.size ≤ maxLen ∧ In64 o.sum ∧ In64 o.per ∧ In64 o.hold ∧ o.note.size ≤ maxLen
/-- its cells, the legs' slice given -/
def Od.cs (o : Od) (v : Value) : List Value := [.int .i64 o.cl, .int .i64 o.sq, .int .i64 o.kd, .string o.acct, .string o.peer, .int .i64 o.sum, v, .int .i64 o.per, .int .i64 o.hold, .string o.note]
/-- legs in memory -/
def LgS (w : World) (F : Nat → Prop) (v : Value) (L : List Lg) : Prop := ∃ A c cells, v = .slice A L.length c ∧ Rd w F 2 A L.length cells ∧ Each RdLg 2 cells L ∧ L.length ≤ c ∧ c ≤ maxLen
theorem LgS.no {w w' : World} {F : Nat → Prop} {v : Value} {L : List Lg} (h : LgS w F v L) (hf : Fr No w w') : LgS w' F v L := by
  obtain ⟨A, c, cells, rfl, hr, r⟩ := h
  exact ⟨A, c, cells, rfl, hr.fr (by omega) hf (fun _ _ _ h => h), r⟩

/-! ### which orders may be -/
def acctB (o : Od) : Bool := if o.kd = 2 ∨ o.kd = 6 then o.an.isEmpty else nameB o.an
def peerB (o : Od) : Bool := if o.kd = 4 then nameB o.pn && !(o.pn == o.an) else o.pn.isEmpty
def sumB (o : Od) : Bool := if o.kd = 1 then decide (0 ≤ o.sum) else if o.kd = 3 ∨ o.kd = 4 then decide (1 ≤ o.sum) else o.sum == 0
def legsB (o : Od) : Bool := if o.kd = 2 then rightB o.legs else o.legs.length == 0
def perB (o : Od) : Bool := if o.kd = 2 ∨ o.kd = 4 ∨ o.kd = 6 then decide (1 ≤ o.per) && decide (o.per ≤ 1000) else o.per == 0
def holdB (o : Od) : Bool := if o.kd = 4 ∨ o.kd = 5 then decide (1 ≤ o.hold) && decide (o.hold ≤ 9999) else o.hold == 0
def noteB (o : Od) : Bool := if o.kd = 2 then decide (o.note.data.toList.length ≤ 20) else o.note.data.toList.isEmpty
def rightO (o : Od) : Bool := decide (1 ≤ o.kd) && (decide (o.kd ≤ 7) && (idB o.cl o.sq && (acctB o && (peerB o && (sumB o && (legsB o && (perB o && (holdB o && noteB o))))))))

theorem zeroS (w : World) : (zeroValue 103).run Tryz.prog w = .ok (.agg zs7) w := by kernel_rfl
theorem shapeF_none {k : Int} (h : ¬ (1 ≤ k ∧ k ≤ 7)) : shapeF k = none := by
  unfold shapeF
  rw [if_neg (by omega), if_neg (by omega), if_neg (by omega), if_neg (by omega), if_neg (by omega), if_neg (by omega), if_neg (by omega)]
end Go.Proofs.YtkkhdjchfhmliaaGreat

namespace Go.Proofs.YtkkhdjchfhmliaaGreat
open Go.RowKit Go.My Go.Maps
set_option linter.unusedSimpArgs false
set_option linter.unusedVariables false
attribute [local go_sem ↓] Go.wp_at_zero Go.wp_at_succ

noncomputable def rg1s : { c : Code // regOf 1 Tryz.f34 = c } := ⟨_, by conv => lhs; whnf⟩
noncomputable def rg1 : Code := rg1s.1
def rgF (v0 v3 v4 v5 v6 v7 v8 v9 v10 v11 : Value) (b : Nat) : Array Value :=
  (v0 :: .pointer (some ⟨b, 0, none⟩) :: .bool false :: v3 :: v4 :: v5 :: v6 :: v7 :: v8 :: v9 :: v10 :: v11 :: undef :: undef :: undef :: undef :: undef :: undef :: undef :: undef :: undef :: undef :: undef :: undef :: undef :: undef :: undef :: undef :: undef :: undef :: undef :: undef :: undef :: undef :: undef :: undef :: undef :: undef :: undef :: undef :: undef :: undef :: undef :: undef :: undef :: undef :: undef :: undef :: undef :: undef :: undef :: undef :: undef :: undef :: undef :: undef :: undef :: undef :: undef :: undef :: undef :: undef :: undef :: undef :: undef :: undef :: undef :: undef :: undef :: []).toArray
set_option maxRecDepth 100000 in
set_option maxHeartbeats 4000000 in
theorem rg1_some {w : World} {b : Nat} {v0 : Value} {Q : Exit → Act → World → Prop} {c0 c1 c2 c3 c4 c5 c6 : FuncId} {o : Od} {v : Value} (hkd : In64 o.kd) (hb : Blk w b 39 (o.cs v).toArray) (hk : shapeF o.kd = some (.agg (shp c0 c1 c2 c3 c4 c5 c6)))
    (hQ : ∀ (p : Nat) (v5 v6 v7 v8 v9 v10 v11 : Value) w', Blk w' p 103 (shp c0 c1 c2 c3 c4 c5 c6) → Fr No w w' → Q .normal ⟨rgF v0 (.pointer (some ⟨p, 0, none⟩)) (.bool true) v5 v6 v7 v8 v9 v10 v11 b, []⟩ w') :
    Code.wp Tryz.prog rg1 Q ⟨rgF v0 undef undef undef undef undef undef undef undef undef b, []⟩ w := by
  have x2 := hb.cell 2
  simp only [Od.cs, List.getElem?_toArray, List.getElem?_cons_zero, List.getElem?_cons_succ] at x2
  have HX : Hid (∀ W, Fr No w W → Fr No w W ∧ W.cell? ⟨b, 2, none⟩ = some (.int .i64 o.kd)) := fun W hW => ⟨hW, hW.cell_some x2 (fun h => h)⟩
  have HSH := Lib.hid (fun W => shapes_any W)
  have hw1 : Fr No w w.drew := (Fr.refl No w).drew
  have HQ := Lib.hid hQ
  have HB := Lib.hid hb.lt
  have HLK : Hid (∀ m W, Tab Tryz.prog 3 W m 7 shapeF → (Instr.lookup 105 (.map (some m)) (.int .i64 o.kd) true).run Tryz.prog W = .ok (.tuple #[.agg #[.func (.func c0) #[] #[], .func (.func c1) #[] #[], .func (.func c2) #[] #[], .func (.func c3) #[] #[], .func (.func c4) #[] #[], .func (.func c5) #[] #[], .func (.func c6) #[] #[]], .bool true]) W) := fun m W h => by
    have h1 := h.look_ok Tryz.underlying3 Tryz.underlying105 (zeroS W) o.kd hkd
    rw [hk] at h1
    exact h1
  clear hb hQ x2 hk
  unfold rgF
  conv => arg 2; whnf
  refine wp_region_noPanic ?_
  have y0 := (HX.out _ hw1).2
  have y1 := fun O => (HX.out _ ((Fr.refl No w).alloc O).drew).2
  go_region_with (go_at_call 48; (with_reducible refine (HSH.out _).mono ?_); rintro e w4 ⟨m, rfl, hT, hf4⟩; have hlk := HLK.out m _ hT; have hlka := (fun O => HLK.out m _ (hT.fr ((Fr.refl No _).alloc O) (fun h => h))); have hg4 := (fun h => Fr.trans (S := No) (a := w) h hf4) (by first | exact hw1 | exact (Fr.drew (Fr.alloc (Fr.refl No w) _))); have y4 := (HX.out _ hg4).2; have y5 := (fun O => (HX.out _ (hg4.alloc O)).2); (try (have hbz : Blk w4 w.heap.size 103 zs7 := Blk.fr (w := ((w.alloc (.cells zs7 103)).drew)) (Blk.new w 103 zs7) hf4 (fun h => h); have z0 := hbz.cell 0; have z1 := hbz.cell 1; have z2 := hbz.cell 2; have z3 := hbz.cell 3; have z4 := hbz.cell 4; have z5 := hbz.cell 5; have z6 := hbz.cell 6; have fz := hbz.frozen; simp only [zs7, List.getElem?_toArray, List.getElem?_cons_zero, List.getElem?_cons_succ] at z0 z1 z2 z3 z4 z5 z6)))
  all_goals
    refine HQ.out _ _ _ _ _ _ _ _ _ ?_ ?_
  all_goals
    first
      | (unfold shp fnV; with_reducible exact Blk.new w4 _ _)
      | (with_reducible exact hg4.alloc _)
      | exact ((((((hbz.set_ 0 _).set_ 1 _).set_ 2 _).set_ 3 _).set_ 4 _).set_ 5 _).set_ 6 _
      | exact ((((((hg4.setCell (p := ⟨w.heap.size, 0, none⟩) (fun h => absurd h (Nat.lt_irrefl _)) _).setCell (p := ⟨w.heap.size, 1, none⟩) (fun h => absurd h (Nat.lt_irrefl _)) _).setCell (p := ⟨w.heap.size, 2, none⟩) (fun h => absurd h (Nat.lt_irrefl _)) _).setCell (p := ⟨w.heap.size, 3, none⟩) (fun h => absurd h (Nat.lt_irrefl _)) _).setCell (p := ⟨w.heap.size, 4, none⟩) (fun h => absurd h (Nat.lt_irrefl _)) _).setCell (p := ⟨w.heap.size, 5, none⟩) (fun h => absurd h (Nat.lt_irrefl _)) _).setCell (p := ⟨w.heap.size, 6, none⟩) (fun h => absurd h (Nat.lt_irrefl _)) _
set_option maxRecDepth 100000 in
set_option maxHeartbeats 4000000 in
theorem rg1_none {w : World} {b : Nat} {v0 : Value} {Q : Exit → Act → World → Prop} {o : Od} {v : Value} (hkd : In64 o.kd) (hb : Blk w b 39 (o.cs v).toArray) (hk : shapeF o.kd = none)
    (hQ : ∀ (p : Nat) (v5 v6 v7 v8 v9 v10 v11 : Value) w', Fr No w w' → Q .normal ⟨rgF v0 (.pointer (some ⟨p, 0, none⟩)) (.bool false) v5 v6 v7 v8 v9 v10 v11 b, []⟩ w') :
    Code.wp Tryz.prog rg1 Q ⟨rgF v0 undef undef undef undef undef undef undef undef undef b, []⟩ w := by
  have x2 := hb.cell 2
  simp only [Od.cs, List.getElem?_toArray, List.getElem?_cons_zero, List.getElem?_cons_succ] at x2
  have HX : Hid (∀ W, Fr No w W → Fr No w W ∧ W.cell? ⟨b, 2, none⟩ = some (.int .i64 o.kd)) := fun W hW => ⟨hW, hW.cell_some x2 (fun h => h)⟩
  have HSH := Lib.hid (fun W => shapes_any W)
  have hw1 : Fr No w w.drew := (Fr.refl No w).drew
  have HQ := Lib.hid hQ
  have HB := Lib.hid hb.lt
  have HLK : Hid (∀ m W, Tab Tryz.prog 3 W m 7 shapeF → (Instr.lookup 105 (.map (some m)) (.int .i64 o.kd) true).run Tryz.prog W = .ok (.tuple #[.agg #[.nilFunc, .nilFunc, .nilFunc, .nilFunc, .nilFunc, .nilFunc, .nilFunc], .bool false]) W) := fun m W h => by
    have h1 := h.look_ok Tryz.underlying3 Tryz.underlying105 (zeroS W) o.kd hkd
    rw [hk] at h1
    exact h1
  clear hb hQ x2 hk
  unfold rgF
  conv => arg 2; whnf
  refine wp_region_noPanic ?_
  have y0 := (HX.out _ hw1).2
  have y1 := fun O => (HX.out _ ((Fr.refl No w).alloc O).drew).2
  go_region_with (go_at_call 48; (with_reducible refine (HSH.out _).mono ?_); rintro e w4 ⟨m, rfl, hT, hf4⟩; have hlk := HLK.out m _ hT; have hlka := (fun O => HLK.out m _ (hT.fr ((Fr.refl No _).alloc O) (fun h => h))); have hg4 := (fun h => Fr.trans (S := No) (a := w) h hf4) (by first | exact hw1 | exact (Fr.drew (Fr.alloc (Fr.refl No w) _))); have y4 := (HX.out _ hg4).2; have y5 := (fun O => (HX.out _ (hg4.alloc O)).2); (try (have hbz : Blk w4 w.heap.size 103 zs7 := Blk.fr (w := ((w.alloc (.cells zs7 103)).drew)) (Blk.new w 103 zs7) hf4 (fun h => h); have z0 := hbz.cell 0; have z1 := hbz.cell 1; have z2 := hbz.cell 2; have z3 := hbz.cell 3; have z4 := hbz.cell 4; have z5 := hbz.cell 5; have z6 := hbz.cell 6; have fz := hbz.frozen; simp only [zs7, List.getElem?_toArray, List.getElem?_cons_zero, List.getElem?_cons_succ] at z0 z1 z2 z3 z4 z5 z6)))
  all_goals
    refine HQ.out _ _ _ _ _ _ _ _ _ ?_
  all_goals
    first
      | (with_reducible exact hg4.alloc _)
      | exact ((((((hg4.setCell (p := ⟨w.heap.size, 0, none⟩) (fun h => absurd h (Nat.lt_irrefl _)) _).setCell (p := ⟨w.heap.size, 1, none⟩) (fun h => absurd h (Nat.lt_irrefl _)) _).setCell (p := ⟨w.heap.size, 2, none⟩) (fun h => absurd h (Nat.lt_irrefl _)) _).setCell (p := ⟨w.heap.size, 3, none⟩) (fun h => absurd h (Nat.lt_irrefl _)) _).setCell (p := ⟨w.heap.size, 4, none⟩) (fun h => absurd h (Nat.lt_irrefl _)) _).setCell (p := ⟨w.heap.size, 5, none⟩) (fun h => absurd h (Nat.lt_irrefl _)) _).setCell (p := ⟨w.heap.size, 6, none⟩) (fun h => absurd h (Nat.lt_irrefl _)) _
end Go.Proofs.YtkkhdjchfhmliaaGreat

namespace Go.Proofs.YtkkhdjchfhmliaaGreat
open Go.RowKit Go.My Go.Maps
set_option linter.unusedSimpArgs false
set_option linter.unusedVariables false
attribute [local go_sem ↓] Go.wp_at_zero Go.wp_at_succ

def Od.val (o : Od) (v : Value) : Value := .agg (o.cs v).toArray
/-- the functions of a kind's fields are asked one after another -/
structure Asks (o : Od) (v : Value) (w : World) (c0 c1 c2 c3 c4 c5 c6 : FuncId) (b0 b1 b2 b3 b4 b5 b6 : Bool) : Prop where
  a0 : AnsB c0 #[.string o.acct] b0
  a1 : AnsB c1 #[.string o.peer, .string o.acct] b1
  a2 : AnsB c2 #[.int .i64 o.sum] b2
  a3 : ∀ W, Fr No w W → Calls Tryz.prog c3 #[v] W fun e w' => e = .returned (.bool b3) ∧ Fr No W w'
  a4 : AnsB c4 #[.int .i64 o.per] b4
  a5 : AnsB c5 #[.int .i64 o.hold] b5
  a6 : AnsB c6 #[.string o.note] b6
  e0 : ∀ args W, (callFunc c0 args).run Tryz.prog W = .ok (.enter c0 args) W
  e1 : ∀ args W, (callFunc c1 args).run Tryz.prog W = .ok (.enter c1 args) W
  e2 : ∀ args W, (callFunc c2 args).run Tryz.prog W = .ok (.enter c2 args) W
  e3 : ∀ args W, (callFunc c3 args).run Tryz.prog W = .ok (.enter c3 args) W
  e4 : ∀ args W, (callFunc c4 args).run Tryz.prog W = .ok (.enter c4 args) W
  e5 : ∀ args W, (callFunc c5 args).run Tryz.prog W = .ok (.enter c5 args) W
  e6 : ∀ args W, (callFunc c6 args).run Tryz.prog W = .ok (.enter c6 args) W
set_option maxRecDepth 100000 in
set_option maxHeartbeats 4000000 in
theorem right_some {o : Od} {v : Value} {w : World} {c0 c1 c2 c3 c4 c5 c6 : FuncId} {b0 b1 b2 b3 b4 b5 b6 : Bool} (ho : o.ok) (hk : shapeF o.kd = some (.agg (shp c0 c1 c2 c3 c4 c5 c6))) (hA : Asks o v w c0 c1 c2 c3 c4 c5 c6 b0 b1 b2 b3 b4 b5 b6) :
    Calls Tryz.prog 34 #[o.val v] w fun e w' => e = .returned (.bool (idB o.cl o.sq && (b0 && (b1 && (b2 && (b3 && (b4 && (b5 && b6)))))))) ∧ Fr No w w' := by
  have HA := Lib.hid hA
  have HID := Lib.hid (ansId o.cl o.sq)
  have HBX := Lib.hid (Blk.new w 39 (o.cs v).toArray)
  have HO := Lib.hid ho
  have HK := Lib.hid hk
  clear ho hk hA
  unfold Od.val
  obtain ⟨ocl, osq, okd, oac, ope, osm, olg, opr, ohd, ont⟩ := o
  unfold Od.cs at *
  go_enter Tryz.func34, Tryz.ntmps34
  go_wp2
  refine rg1_some (o := ⟨ocl, osq, okd, oac, ope, osm, olg, opr, ohd, ont⟩) (v := v) HO.out.2.2.1 HBX.out HK.out fun p v5 v6 v7 v8 v9 v10 v11 w2 hbp hf2 => ?_
  unfold rgF
  have HF2 : Hid (Fr No w w2) := ((Fr.refl No w).alloc _).trans hf2
  have hbx := HBX.out.fr hf2 (fun h => h)
  have HBX2 := Lib.hid hbx
  have HBP := Lib.hid hbp
  have HX : Hid (∀ W, Fr No w2 W → W.cell? ⟨w.heap.size, 0, none⟩ = some (.int .i64 ocl) ∧ W.cell? ⟨w.heap.size, 1, none⟩ = some (.int .i64 osq) ∧ W.cell? ⟨w.heap.size, 3, none⟩ = some (.string oac) ∧ W.cell? ⟨w.heap.size, 4, none⟩ = some (.string ope) ∧ W.cell? ⟨w.heap.size, 5, none⟩ = some (.int .i64 osm) ∧ W.cell? ⟨w.heap.size, 6, none⟩ = some v ∧ W.cell? ⟨w.heap.size, 7, none⟩ = some (.int .i64 opr) ∧ W.cell? ⟨w.heap.size, 8, none⟩ = some (.int .i64 ohd) ∧ W.cell? ⟨w.heap.size, 9, none⟩ = some (.string ont)) := fun W hW => by
    have h := HBX2.out.fr hW (fun h => h)
    exact ⟨h.cell 0, h.cell 1, h.cell 3, h.cell 4, h.cell 5, h.cell 6, h.cell 7, h.cell 8, h.cell 9⟩
  have HP : Hid (∀ W, Fr No w2 W → W.cell? ⟨p, 0, none⟩ = some (.func (.func c0) #[] #[]) ∧ W.cell? ⟨p, 1, none⟩ = some (.func (.func c1) #[] #[]) ∧ W.cell? ⟨p, 2, none⟩ = some (.func (.func c2) #[] #[]) ∧ W.cell? ⟨p, 3, none⟩ = some (.func (.func c3) #[] #[]) ∧ W.cell? ⟨p, 4, none⟩ = some (.func (.func c4) #[] #[]) ∧ W.cell? ⟨p, 5, none⟩ = some (.func (.func c5) #[] #[]) ∧ W.cell? ⟨p, 6, none⟩ = some (.func (.func c6) #[] #[])) := fun W hW => by
    have h := HBP.out.fr hW (fun h => h)
    exact ⟨h.cell 0, h.cell 1, h.cell 2, h.cell 3, h.cell 4, h.cell 5, h.cell 6⟩
  clear hbp hf2 hbx HBX HBX2 HBP HK HO
  have a0 := HA.out.a0
  have a1 := HA.out.a1
  have a2 := HA.out.a2
  have a3 := HA.out.a3
  have a4 := HA.out.a4
  have a5 := HA.out.a5
  have a6 := HA.out.a6
  simp only at a0 a1 a2 a3 a4 a5 a6
  have A0 := Lib.hid a0
  have A1 := Lib.hid a1
  have A2 := Lib.hid a2
  have A3 := Lib.hid a3
  have A4 := Lib.hid a4
  have A5 := Lib.hid a5
  have A6 := Lib.hid a6
  have e0 := HA.out.e0
  have e1 := HA.out.e1
  have e2 := HA.out.e2
  have e3 := HA.out.e3
  have e4 := HA.out.e4
  have e5 := HA.out.e5
  have e6 := HA.out.e6
  clear a0 a1 a2 a3 a4 a5 a6 HA
  obtain ⟨x0, x1, x3, x4, x5, x6, x7, x8, x9⟩ := HX.out _ (Fr.refl No w2)
  go_wp2_with fail
  refine (HID.out _).mono ?_
  rintro e u0 ⟨rfl, hg0⟩
  have HG0 := Lib.hid hg0
  clear hg0 x0 x1 x3 x4 x5 x6 x7 x8 x9
  cases hi : idB ocl osq
  · clear e0 e1 e2 e3 e4 e5 e6
    go_wp2
    go_ret
    exact ⟨by rw [hi]; rfl, HF2.out.trans HG0.out⟩
  obtain ⟨x0, x1, x3, x4, x5, x6, x7, x8, x9⟩ := HX.out _ HG0.out
  obtain ⟨y0, y1, y2, y3, y4, y5, y6⟩ := HP.out _ HG0.out
  go_wp2_with fail
  refine (A0.out _).mono ?_
  rintro e u1 ⟨rfl, hg1⟩
  have HG1 := Lib.hid (HG0.out.trans hg1)
  clear hg1 x0 x1 x3 x4 x5 x6 x7 x8 x9 y0 y1 y2 y3 y4 y5 y6
  cases b0
  · clear e0 e1 e2 e3 e4 e5 e6
    go_wp2
    go_ret
    exact ⟨by rw [hi]; rfl, HF2.out.trans HG1.out⟩
  obtain ⟨x0, x1, x3, x4, x5, x6, x7, x8, x9⟩ := HX.out _ HG1.out
  obtain ⟨y0, y1, y2, y3, y4, y5, y6⟩ := HP.out _ HG1.out
  go_wp2_with fail
  refine (A1.out _).mono ?_
  rintro e u2 ⟨rfl, hg2⟩
  have HG2 := Lib.hid (HG1.out.trans hg2)
  clear hg2 x0 x1 x3 x4 x5 x6 x7 x8 x9 y0 y1 y2 y3 y4 y5 y6
  cases b1
  · clear e0 e1 e2 e3 e4 e5 e6
    go_wp2
    go_ret
    exact ⟨by rw [hi]; rfl, HF2.out.trans HG2.out⟩
  obtain ⟨x0, x1, x3, x4, x5, x6, x7, x8, x9⟩ := HX.out _ HG2.out
  obtain ⟨y0, y1, y2, y3, y4, y5, y6⟩ := HP.out _ HG2.out
  go_wp2_with fail
  refine (A2.out _).mono ?_
  rintro e u3 ⟨rfl, hg3⟩
  have HG3 := Lib.hid (HG2.out.trans hg3)
  clear hg3 x0 x1 x3 x4 x5 x6 x7 x8 x9 y0 y1 y2 y3 y4 y5 y6
  cases b2
  · clear e0 e1 e2 e3 e4 e5 e6
    go_wp2
    go_ret
    exact ⟨by rw [hi]; rfl, HF2.out.trans HG3.out⟩
  obtain ⟨x0, x1, x3, x4, x5, x6, x7, x8, x9⟩ := HX.out _ HG3.out
  obtain ⟨y0, y1, y2, y3, y4, y5, y6⟩ := HP.out _ HG3.out
  go_wp2_with fail
  refine (A3.out _ (HF2.out.trans HG3.out)).mono ?_
  rintro e u4 ⟨rfl, hg4⟩
  have HG4 := Lib.hid (HG3.out.trans hg4)
  clear hg4 x0 x1 x3 x4 x5 x6 x7 x8 x9 y0 y1 y2 y3 y4 y5 y6
  cases b3
  · clear e0 e1 e2 e3 e4 e5 e6
    go_wp2
    go_ret
    exact ⟨by rw [hi]; rfl, HF2.out.trans HG4.out⟩
  obtain ⟨x0, x1, x3, x4, x5, x6, x7, x8, x9⟩ := HX.out _ HG4.out
  obtain ⟨y0, y1, y2, y3, y4, y5, y6⟩ := HP.out _ HG4.out
  go_wp2_with fail
  refine (A4.out _).mono ?_
  rintro e u5 ⟨rfl, hg5⟩
  have HG5 := Lib.hid (HG4.out.trans hg5)
  clear hg5 x0 x1 x3 x4 x5 x6 x7 x8 x9 y0 y1 y2 y3 y4 y5 y6
  cases b4
  · clear e0 e1 e2 e3 e4 e5 e6
    go_wp2
    go_ret
    exact ⟨by rw [hi]; rfl, HF2.out.trans HG5.out⟩
  obtain ⟨x0, x1, x3, x4, x5, x6, x7, x8, x9⟩ := HX.out _ HG5.out
  obtain ⟨y0, y1, y2, y3, y4, y5, y6⟩ := HP.out _ HG5.out
  go_wp2_with fail
  refine (A5.out _).mono ?_
  rintro e u6 ⟨rfl, hg6⟩
  have HG6 := Lib.hid (HG5.out.trans hg6)
  clear hg6 x0 x1 x3 x4 x5 x6 x7 x8 x9 y0 y1 y2 y3 y4 y5 y6
  cases b5
  · clear e0 e1 e2 e3 e4 e5 e6
    go_wp2
    go_ret
    exact ⟨by rw [hi]; rfl, HF2.out.trans HG6.out⟩
  obtain ⟨x0, x1, x3, x4, x5, x6, x7, x8, x9⟩ := HX.out _ HG6.out
  obtain ⟨y0, y1, y2, y3, y4, y5, y6⟩ := HP.out _ HG6.out
  go_wp2_with fail
  refine (A6.out _).mono ?_
  rintro e u7 ⟨rfl, hg7⟩
  have HG7 := Lib.hid (HG6.out.trans hg7)
  clear hg7 x0 x1 x3 x4 x5 x6 x7 x8 x9 y0 y1 y2 y3 y4 y5 y6
  clear e0 e1 e2 e3 e4 e5 e6
  go_wp2
  go_ret
  exact ⟨by rw [hi]; rfl, HF2.out.trans HG7.out⟩
set_option maxRecDepth 100000 in
set_option maxHeartbeats 4000000 in
theorem right_none {o : Od} {v : Value} {w : World} (ho : o.ok) (hk : shapeF o.kd = none) :
    Calls Tryz.prog 34 #[o.val v] w fun e w' => e = .returned (.bool false) ∧ Fr No w w' := by
  have HBX := Lib.hid (Blk.new w 39 (o.cs v).toArray)
  have HO := Lib.hid ho
  have HK := Lib.hid hk
  clear ho hk
  unfold Od.val
  obtain ⟨ocl, osq, okd, oac, ope, osm, olg, opr, ohd, ont⟩ := o
  unfold Od.cs at *
  go_enter Tryz.func34, Tryz.ntmps34
  go_wp2
  refine rg1_none (o := ⟨ocl, osq, okd, oac, ope, osm, olg, opr, ohd, ont⟩) (v := v) HO.out.2.2.1 HBX.out HK.out fun p v5 v6 v7 v8 v9 v10 v11 w2 hf2 => ?_
  unfold rgF
  have HF2 : Hid (Fr No w w2) := ((Fr.refl No w).alloc _).trans hf2
  clear hf2 HBX HK HO
  go_wp2
  go_ret
  exact ⟨rfl, HF2.out⟩

theorem k_name (args : Array Value) (W : World) : (callFunc 77 args).run Tryz.prog W = .ok (.enter 77 args) W := by kernel_rfl
theorem k_1 (args : Array Value) (W : World) : (callFunc 70 args).run Tryz.prog W = .ok (.enter 70 args) W := by kernel_rfl
theorem k_2 (args : Array Value) (W : World) : (callFunc 71 args).run Tryz.prog W = .ok (.enter 71 args) W := by kernel_rfl
theorem k_3 (args : Array Value) (W : World) : (callFunc 72 args).run Tryz.prog W = .ok (.enter 72 args) W := by kernel_rfl
theorem k_4 (args : Array Value) (W : World) : (callFunc 73 args).run Tryz.prog W = .ok (.enter 73 args) W := by kernel_rfl
theorem k_5 (args : Array Value) (W : World) : (callFunc 74 args).run Tryz.prog W = .ok (.enter 74 args) W := by kernel_rfl
theorem k_6 (args : Array Value) (W : World) : (callFunc 75 args).run Tryz.prog W = .ok (.enter 75 args) W := by kernel_rfl
theorem k_7 (args : Array Value) (W : World) : (callFunc 76 args).run Tryz.prog W = .ok (.enter 76 args) W := by kernel_rfl
theorem k_8 (args : Array Value) (W : World) : (callFunc 78 args).run Tryz.prog W = .ok (.enter 78 args) W := by kernel_rfl
theorem k_legs (args : Array Value) (W : World) : (callFunc 79 args).run Tryz.prog W = .ok (.enter 79 args) W := by kernel_rfl
theorem k_per (args : Array Value) (W : World) : (callFunc 80 args).run Tryz.prog W = .ok (.enter 80 args) W := by kernel_rfl
theorem k_hold (args : Array Value) (W : World) : (callFunc 84 args).run Tryz.prog W = .ok (.enter 84 args) W := by kernel_rfl
theorem k_note (args : Array Value) (W : World) : (callFunc 81 args).run Tryz.prog W = .ok (.enter 81 args) W := by kernel_rfl
theorem k_sum (args : Array Value) (W : World) : (callFunc 82 args).run Tryz.prog W = .ok (.enter 82 args) W := by kernel_rfl
theorem k_peer (args : Array Value) (W : World) : (callFunc 83 args).run Tryz.prog W = .ok (.enter 83 args) W := by kernel_rfl

/-- which orders may be -/
theorem rightO_any (F : Nat → Prop) (o : Od) (v : Value) (w : World) (ho : o.ok) (hv : LgS w F v o.legs) :
    Calls Tryz.prog 34 #[o.val v] w fun e w' => e = .returned (.bool (rightO o)) ∧ Fr No w w' := by
  have hLg : ∀ W, Fr No w W → Calls Tryz.prog 79 #[v] W fun e w' => e = .returned (.bool (rightB o.legs)) ∧ Fr No W w' := fun W hW => by
    obtain ⟨A, c, cells, rfl, hr, hE, h1, h2⟩ := hv.no hW
    exact rightLegs_any F A c cells o.legs W hr hE h1 h2
  have hL4 : ∀ W, Fr No w W → Calls Tryz.prog 73 #[v] W fun e w' => e = .returned (.bool (o.legs.length == 0)) ∧ Fr No W w' := fun W hW => by
    obtain ⟨A, c, cells, rfl, hr, hE, h1, h2⟩ := hv
    exact ans4 A o.legs.length c W
  have hName := ansName o.acct ho.2.2.2.1
  have hPeer := ansPeer o.peer o.acct ho.2.2.2.2.1
  by_cases hk : 1 ≤ o.kd ∧ o.kd ≤ 7
  · have e1 : decide (1 ≤ o.kd) = true := decide_eq_true hk.1
    have e2 : decide (o.kd ≤ 7) = true := decide_eq_true hk.2
    unfold rightO
    rw [e1, e2, Bool.true_and, Bool.true_and]
    have h7 : o.kd = 1 ∨ o.kd = 2 ∨ o.kd = 3 ∨ o.kd = 4 ∨ o.kd = 5 ∨ o.kd = 6 ∨ o.kd = 7 := by omega
    unfold acctB peerB sumB legsB perB holdB noteB
    rcases h7 with h | h | h | h | h | h | h <;> simp only [h, Int.reduceEq, if_true, if_false, or_true, true_or, or_false, or_self, false_or]
    · exact right_some ho (by rw [h]; rfl) ⟨hName, ans2 _ _, ans8 _, hL4, ans5 _, ans6 _, ans7 _, k_name, k_2, k_8, k_4, k_5, k_6, k_7⟩
    · exact right_some ho (by rw [h]; rfl) ⟨ans1 _, ans2 _ _, ans3 _, hLg, ansPeriod _, ans6 _, ansNote _, k_1, k_2, k_3, k_legs, k_per, k_6, k_note⟩
    · exact right_some ho (by rw [h]; rfl) ⟨hName, ans2 _ _, ansSum _, hL4, ans5 _, ans6 _, ans7 _, k_name, k_2, k_sum, k_4, k_5, k_6, k_7⟩
    · exact right_some ho (by rw [h]; rfl) ⟨hName, hPeer, ansSum _, hL4, ansPeriod _, ansHold _, ans7 _, k_name, k_peer, k_sum, k_4, k_per, k_hold, k_7⟩
    · exact right_some ho (by rw [h]; rfl) ⟨hName, ans2 _ _, ans3 _, hL4, ans5 _, ansHold _, ans7 _, k_name, k_2, k_3, k_4, k_5, k_hold, k_7⟩
    · exact right_some ho (by rw [h]; rfl) ⟨ans1 _, ans2 _ _, ans3 _, hL4, ansPeriod _, ans6 _, ans7 _, k_1, k_2, k_3, k_4, k_per, k_6, k_7⟩
    · exact right_some ho (by rw [h]; rfl) ⟨hName, ans2 _ _, ans3 _, hL4, ans5 _, ans6 _, ans7 _, k_name, k_2, k_3, k_4, k_5, k_6, k_7⟩
  · have e : rightO o = false := by
      unfold rightO
      by_cases h1 : 1 ≤ o.kd
      · have : decide (o.kd ≤ 7) = false := decide_eq_false (fun h => hk ⟨h1, h⟩)
        rw [this, Bool.false_and, Bool.and_false]
      · rw [decide_eq_false h1, Bool.false_and]
    rw [e]
    exact right_none ho (shapeF_none hk)
end Go.Proofs.YtkkhdjchfhmliaaGreat

namespace Go.Proofs.YtkkhdjchfhmliaaGreat
open Go.RowKit Go.My Go.Maps
set_option linter.unusedSimpArgs false
set_option linter.unusedVariables false
theorem LgS_zero (w : World) (F : Nat → Prop) (A : Option Addr) (c : Nat) (hc : c ≤ maxLen) : LgS w F (.slice A 0 c) [] := ⟨A, c, [], rfl, ⟨by simp, fun h => absurd h (by simp)⟩, ⟨rfl, fun i x hx => by simp at hx⟩, Nat.zero_le _, hc⟩
theorem LgS_nil (w : World) (F : Nat → Prop) : LgS w F (.slice none 0 0) [] := ⟨none, 0, [], rfl, Rd.none_, ⟨rfl, fun i x hx => by simp at hx⟩, Nat.le_refl _, by unfold maxLen; omega⟩
section
open Go.ChangeShapes Go.WideShapes
variable {H : Type} {enc : TypeId × Value → H} {w : World} {base : Nat} {spare : Nat → Bool} {held : Bool}
set_option maxRecDepth 100000 in
theorem open_id {n : Nat} {cs : List Value} {x : DataW H × List MemPlace} (h : DataW.trod enc Tryz.prog w base spare held n 36 cs = some x) : ∃ a b : Int, cs = [.int .i64 a, .int .i64 b] ∧ In64 a ∧ In64 b := by
  obtain ⟨xs, m, _, _, hl, _, hf⟩ := DataW.trod_struct Tryz.underlying36 h
  have hC : Tryz.prog.cellsOf 36 = 2 := by kernel_rfl
  have C3 : Tryz.prog.cellsOf 3 = 1 := by kernel_rfl
  rw [hC] at hl
  match cs, hl with
  | [v0, v1], _ =>
    have f0 : DataW.trod enc Tryz.prog w base spare held m 3 [v0] = xs[0]? := by have := hf 0 _ rfl; simpa [C3] using this
    have f1 : DataW.trod enc Tryz.prog w base spare held m 3 [v1] = xs[1]? := by have := hf 1 _ rfl; simpa [C3] using this
    have g : ∀ i, i < xs.length → ∃ y, xs[i]? = some y := fun i hi => ⟨xs[i], List.getElem?_eq_getElem hi⟩
    have hxl : xs.length = 2 := by assumption
    obtain ⟨y0, e0⟩ := g 0 (by omega)
    obtain ⟨y1, e1⟩ := g 1 (by omega)
    rw [e0] at f0; rw [e1] at f1
    obtain ⟨k0, hk0, _, wk0⟩ := DataW.trod_int Tryz.underlying3 f0
    obtain ⟨k1, hk1, _, wk1⟩ := DataW.trod_int Tryz.underlying3 f1
    simp only [List.cons.injEq, and_true] at hk0 hk1
    subst hk0 hk1
    exact ⟨k0, k1, rfl, bounds_i64 wk0, bounds_i64 wk1⟩
/-- legs that came in are right in kind -/
def OdI (w : World) (o : Od) (v : Value) : Prop := o.ok ∧ (∀ g ∈ o.legs, g.ok) ∧ LgS w (Lt w.heap.size) v o.legs
set_option maxRecDepth 100000 in
theorem open_od {n : Nat} {cs : List Value} {x : DataW H × List MemPlace} (h : DataW.trod enc Tryz.prog w base spare held n 39 cs = some x) : ∃ (o : Od) (v : Value), cs = o.cs v ∧ OdI w o v := by
  obtain ⟨xs, m, _, _, hl, _, hf⟩ := DataW.trod_struct Tryz.underlying39 h
  have hC : Tryz.prog.cellsOf 39 = 10 := by kernel_rfl
  have C0 : Tryz.prog.cellsOf 36 = 2 := by kernel_rfl
  have C1 : Tryz.prog.cellsOf 9 = 1 := by kernel_rfl
  have C2 : Tryz.prog.cellsOf 2 = 1 := by kernel_rfl
  have C3 : Tryz.prog.cellsOf 3 = 1 := by kernel_rfl
  have C4 : Tryz.prog.cellsOf 37 = 1 := by kernel_rfl
  rw [hC] at hl
  match cs, hl with
  | [v0, v1, v2, v3, v4, v5, v6, v7, v8, v9], _ =>
    have f0 : DataW.trod enc Tryz.prog w base spare held m 36 [v0, v1] = xs[0]? := by have := hf 0 _ rfl; simpa [C0, C1, C2, C3, C4] using this
    have f1 : DataW.trod enc Tryz.prog w base spare held m 3 [v2] = xs[1]? := by have := hf 1 _ rfl; simpa [C0, C1, C2, C3, C4] using this
    have f2 : DataW.trod enc Tryz.prog w base spare held m 9 [v3] = xs[2]? := by have := hf 2 _ rfl; simpa [C0, C1, C2, C3, C4] using this
    have f3 : DataW.trod enc Tryz.prog w base spare held m 9 [v4] = xs[3]? := by have := hf 3 _ rfl; simpa [C0, C1, C2, C3, C4] using this
    have f4 : DataW.trod enc Tryz.prog w base spare held m 2 [v5] = xs[4]? := by have := hf 4 _ rfl; simpa [C0, C1, C2, C3, C4] using this
    have f5 : DataW.trod enc Tryz.prog w base spare held m 37 [v6] = xs[5]? := by have := hf 5 _ rfl; simpa [C0, C1, C2, C3, C4] using this
    have f6 : DataW.trod enc Tryz.prog w base spare held m 3 [v7] = xs[6]? := by have := hf 6 _ rfl; simpa [C0, C1, C2, C3, C4] using this
    have f7 : DataW.trod enc Tryz.prog w base spare held m 3 [v8] = xs[7]? := by have := hf 7 _ rfl; simpa [C0, C1, C2, C3, C4] using this
    have f8 : DataW.trod enc Tryz.prog w base spare held m 9 [v9] = xs[8]? := by have := hf 8 _ rfl; simpa [C0, C1, C2, C3, C4] using this
    have g : ∀ i, i < xs.length → ∃ y, xs[i]? = some y := fun i hi => ⟨xs[i], List.getElem?_eq_getElem hi⟩
    have hxl : xs.length = 9 := by assumption
    obtain ⟨y0, e0⟩ := g 0 (by omega)
    obtain ⟨y1, e1⟩ := g 1 (by omega)
    obtain ⟨y2, e2⟩ := g 2 (by omega)
    obtain ⟨y3, e3⟩ := g 3 (by omega)
    obtain ⟨y4, e4⟩ := g 4 (by omega)
    obtain ⟨y5, e5⟩ := g 5 (by omega)
    obtain ⟨y6, e6⟩ := g 6 (by omega)
    obtain ⟨y7, e7⟩ := g 7 (by omega)
    obtain ⟨y8, e8⟩ := g 8 (by omega)
    rw [e0] at f0; rw [e1] at f1; rw [e2] at f2; rw [e3] at f3; rw [e4] at f4; rw [e5] at f5; rw [e6] at f6; rw [e7] at f7; rw [e8] at f8
    obtain ⟨a, b, h01, ha, hb⟩ := open_id f0
    obtain ⟨k2, h2, _, w2⟩ := DataW.trod_int Tryz.underlying3 f1
    obtain ⟨s3, h3, _, w3⟩ := DataW.trod_string Tryz.underlying9 f2
    obtain ⟨s4, h4, _, w4⟩ := DataW.trod_string Tryz.underlying9 f3
    obtain ⟨k5, h5, _, w5⟩ := DataW.trod_int Tryz.underlying2 f4
    obtain ⟨A, c, cells, L, h6, hrd, hlc, hcm, hE⟩ := open_each RdLg Tryz.underlying37 (size := 2) (by kernel_rfl) (by omega) (fun n cs x hx => open_leg hx) f5
    obtain ⟨k7, h7, _, w7⟩ := DataW.trod_int Tryz.underlying3 f6
    obtain ⟨k8, h8, _, w8⟩ := DataW.trod_int Tryz.underlying3 f7
    obtain ⟨s9, h9, _, w9⟩ := DataW.trod_string Tryz.underlying9 f8
    simp only [List.cons.injEq, and_true] at h01 h2 h3 h4 h5 h6 h7 h8 h9
    obtain ⟨h0, h1⟩ := h01
    subst h0 h1 h2 h3 h4 h5 h6 h7 h8 h9
    refine ⟨⟨a, b, k2, s3, s4, k5, L, k7, k8, s9⟩, .slice A L.length c, rfl, ⟨ha, hb, bounds_i64 w2, w3, w4, bounds_i64 w5, bounds_i64 w7, bounds_i64 w8, w9⟩, ?_, A, c, cells, rfl, hrd, hE, hlc, hcm⟩
    intro g hg
    obtain ⟨i, hi, rfl⟩ := List.getElem_of_mem hg
    exact (hE.2 i _ (List.getElem?_eq_getElem hi)).2
set_option maxRecDepth 100000 in
theorem open_odv {r : Reach} {b0 : Nat} {v : Value} {d : DataW H} {p : List MemPlace} (hv : Value.okWide Tryz.prog w r b0 39 v)
    (h : DataW.Trod enc Tryz.prog w 0 (fun _ => true) true 39 v d p) : ∃ (o : Od) (u : Value), v = o.val u ∧ OdI w o u := by
  obtain ⟨cs, rfl, hsz⟩ := okWide_struct Tryz.underlying39 hv
  obtain ⟨fuel, hf⟩ := h
  obtain ⟨o, u, ho, hk⟩ := open_od hf
  refine ⟨o, u, ?_, hk⟩
  obtain ⟨l⟩ := cs
  have ho' : l = o.cs u := by simpa [Value.cells] using ho
  subst ho'
  rfl
end
def Od.few (o : Od) : Od := { o with legs := o.legs.take 10 }
theorem Od.few_ok {o : Od} (h : o.ok) : o.few.ok := h
theorem LgS.take {w : World} {F : Nat → Prop} {A : Option Addr} {L : List Lg} {n c : Nat} (h : LgS w F (.slice A n c) L) (k : Nat) : LgS w F (.slice A (min n k) c) (L.take k) := by
  obtain ⟨A', c', cells, e, hr, hE, h1, h2⟩ := h
  cases e
  refine ⟨A, c, cells.take (min L.length k * 2), by rw [List.length_take, Nat.min_comm], ?_, ?_, by rw [List.length_take]; omega, h2⟩
  · have := hr.take (k := min L.length k) (by omega)
    rw [List.length_take, Nat.min_comm k]
    exact this
  · refine ⟨by rw [List.length_take, List.length_take, hE.1]; omega, fun i x hx => ?_⟩
    have hi : i < (L.take k).length := (List.getElem?_eq_some_iff.1 hx).1
    rw [List.length_take] at hi
    have hx' : L[i]? = some x := by rw [List.getElem?_take] at hx; split at hx <;> simp_all
    have := hE.2 i x hx'
    rw [List.drop_take, List.take_take, Nat.min_eq_left (by omega)]
    exact this
theorem LgS.form {w : World} {F : Nat → Prop} {v : Value} {L : List Lg} (h : LgS w F v L) : ∃ A c, v = .slice A L.length c ∧ L.length ≤ c ∧ c ≤ maxLen := by
  obtain ⟨A, c, cells, e, hr, hE, h1, h2⟩ := h
  exact ⟨A, c, e, h1, h2⟩
theorem LgS.below {w w' : World} {v : Value} {L : List Lg} {B : Nat} (h : LgS w (Lt B) v L) (hb : Below B w w') : LgS w' (Lt B) v L := by
  obtain ⟨A, c, cells, e, hr, hE, h1, h2⟩ := h
  exact ⟨A, c, cells, e, hr.below hb (fun _ h => h), hE, h1, h2⟩
end Go.Proofs.YtkkhdjchfhmliaaGreat

namespace Go.Proofs.YtkkhdjchfhmliaaGreat
open Go.RowKit Go.My Go.Maps
set_option linter.unusedSimpArgs false
set_option linter.unusedVariables false
attribute [local go_sem ↓] Go.wp_at_zero Go.wp_at_succ

theorem bytes_ext {a b : ByteArray} (h : a.data.toList = b.data.toList) : a = b := by
  obtain ⟨⟨x⟩⟩ := a
  obtain ⟨⟨y⟩⟩ := b
  simp only at h
  rw [h]
instance : DecidableEq Lg := fun a b =>
  if h : a.acct.data.toList = b.acct.data.toList ∧ a.sum = b.sum then isTrue (by cases a; cases b; simp only [Lg.mk.injEq]; exact ⟨bytes_ext h.1, h.2⟩) else isFalse fun e => h (by subst e; exact ⟨rfl, rfl⟩)
theorem neq_lg (a b : Lg) (W : World) (h : a ≠ b) : (binOp .neq 81 (.agg #[.string a.acct, .int .i64 a.sum]) (.agg #[.string b.acct, .int .i64 b.sum])).run Tryz.prog W = .ok (.bool true) W := by
  have key : a.acct.toList = b.acct.toList → ¬ a.sum = b.sum := fun h1 h2 => h (by
    cases a; cases b
    simp only [Lg.mk.injEq]
    rw [ByteArray.toList_eq, ByteArray.toList_eq] at h1
    exact ⟨bytes_ext h1, h2⟩)
  simp [go_sem]
  exact key
def EqRel (w : World) (L R : List Lg) (iv : Value) (wr : World) : Prop := ∃ k j : Nat, k ≤ L.length ∧ iv = .int .i64 k ∧ L.take k = R.take k ∧ wr = w.drewN j
set_option maxRecDepth 100000 in
set_option maxHeartbeats 2000000 in
theorem equalL_any (F G : Nat → Prop) (v u : Value) (L R : List Lg) (w : World) (hv : LgS w F v L) (hu : LgS w G u R) :
    Calls Tryz.prog 61 #[v, u] w fun e w' => e = .returned (.bool (decide (L = R))) ∧ Fr No w w' := by
  obtain ⟨A, c, cA, rfl, hA, eA, hc1, hc2⟩ := hv
  obtain ⟨B, d, cB, rfl, hB, eB, hd1, hd2⟩ := hu
  have HA := Lib.hid hA
  have HB := Lib.hid hB
  have EA := Lib.hid eA
  have EB := Lib.hid eB
  have HM : Hid (L.length ≤ 9223372036854775807) := by show _ ≤ _; unfold maxLen at hc2; omega
  clear hA hB eA eB
  by_cases hlen : L.length = R.length
  · have hz : ((L.length : Int) != (R.length : Int)) = false := by rw [bne_eq_false_iff_eq]; omega
    have HL := Lib.hid hlen
    clear hlen
    go_enter Tryz.func61, Tryz.ntmps61
    go_wp2
    go_loopw [13] (fun iv wr => EqRel w L R iv wr) (fun iv _ => L.length - (intOf iv).toNat)
    case atStart => exact ⟨0, 0, Nat.zero_le _, rfl, rfl, rfl⟩
    case round =>
      obtain ⟨k, j, hk, rfl, heq, rfl⟩ := hrel
      have HE := Lib.hid heq
      clear heq
      by_cases hlt : k < L.length
      · have hlt2 : k < R.length := by have := HL.out; omega
        obtain ⟨ad, rfl, _, hok1, p0, p1⟩ := lg_at HA.out EA.out k hlt hlt
        obtain ⟨bd, rfl, _, hok2, q0, q1⟩ := lg_at HB.out EB.out k hlt2 hlt2
        have e1 : L.take (k + 1) = L.take k ++ [L[k]] := List.take_succ_eq_append_getElem hlt
        have e2 : R.take (k + 1) = R.take k ++ [R[k]] := List.take_succ_eq_append_getElem hlt2
        have hk62 : (k : Int) < 9223372036854775807 := by have := HM.out; omega
        by_cases hxy : L[k] = R[k]
        · have E : Hid (L.take (k + 1) = R.take (k + 1)) := by show _ = _; rw [e1, e2, HE.out, hxy]
          rw [← hxy] at q0 q1
          clear e1 e2 hxy hok1 hok2
          generalize L[k].acct = n1 at *
          generalize L[k].sum = v1 at *
          go_wp2
          go_quiet (fail)
          go_wp2
          go_roundw
          case rel => exact ⟨k + 1, _, by omega, by go_num, E.out, rfl⟩
          case measure => simp [intOf]; omega
        · have E : Hid (L ≠ R) := by
            intro h
            subst h
            exact hxy rfl
          have hne := fun W => neq_lg L[k] R[k] W hxy
          clear e1 e2 hxy hok1 hok2
          generalize L[k].acct = n1 at *
          generalize L[k].sum = v1 at *
          generalize R[k].acct = m1 at *
          generalize R[k].sum = u1 at *
          go_wp2
          go_quiet (fail)
          go_wp2
          go_ret
          exact ⟨by rw [decide_eq_false E.out]; rfl, ((Fr.refl _ _).drewN _).drewN _⟩
      · have hkl : k = L.length := by omega
        subst hkl
        have h1 := HE.out
        rw [List.take_length, HL.out, List.take_length] at h1
        have H1 := Lib.hid h1
        clear h1
        go_wp2
        go_ret
        exact ⟨by rw [decide_eq_true H1.out]; rfl, (Fr.refl _ _).drewN _⟩
  · have hz : ((L.length : Int) != (R.length : Int)) = true := by rw [bne_iff_ne]; omega
    have HL := Lib.hid hlen
    clear hlen
    go_enter Tryz.func61, Tryz.ntmps61
    go_wp2
    go_ret
    exact ⟨by rw [decide_eq_false (fun h => HL.out (by rw [h]))]; rfl, Fr.refl _ _⟩

/-- the same in every field -/
def eqO (o r : Od) : Bool := decide (o.cl = r.cl ∧ o.sq = r.sq) && (decide (o.kd = r.kd) && (decide (o.an = r.an) && (decide (o.pn = r.pn) && (decide (o.sum = r.sum) && (decide (o.legs = r.legs) && (decide (o.per = r.per) && (decide (o.hold = r.hold) && decide (o.note.data.toList = r.note.data.toList))))))))
theorem eqO_iff (o r : Od) : eqO o r = true ↔ o = r := by
  unfold eqO
  simp only [Bool.and_eq_true, decide_eq_true_eq]
  constructor
  · rintro ⟨⟨h1, h2⟩, h3, h4, h5, h6, h7, h8, h9, h10⟩
    obtain ⟨a, b, c, d, e, f, g, h, i, j⟩ := o
    obtain ⟨a', b', c', d', e', f', g', h', i', j'⟩ := r
    simp only [Od.an, Od.pn] at h1 h2 h3 h4 h5 h6 h7 h8 h9 h10
    rw [h1, h2, h3, bytes_ext h4, bytes_ext h5, h6, h7, h8, h9, bytes_ext h10]
  · rintro rfl
    simp
theorem eq_id (a b c d : Int) (W : World) (h : ¬ (a = c ∧ b = d)) : (binOp .eql 36 (.agg #[.int .i64 a, .int .i64 b]) (.agg #[.int .i64 c, .int .i64 d])).run Tryz.prog W = .ok (.bool false) W := by
  simp [go_sem]
  intro h1 h2
  exact h ⟨h1, h2⟩
set_option maxRecDepth 100000 in
set_option maxHeartbeats 8000000 in
theorem osame_any (F G : Nat → Prop) (o r : Od) (v u : Value) (w : World) (hv : LgS w F v o.legs) (hu : LgS w G u r.legs) :
    Calls Tryz.prog 40 #[o.val v, r.val u] w fun e w' => e = .returned (.bool (eqO o r)) ∧ Fr No w w' := by
  have HEQ := Lib.hid (fun W (hW : Fr No w W) => equalL_any F G v u o.legs r.legs W (hv.no hW) (hu.no hW))
  clear hv hu
  unfold Od.val
  obtain ⟨acl, asq, akd, aac, ape, asm, alg, apr, ahd, ant⟩ := o
  obtain ⟨bcl, bsq, bkd, bac, bpe, bsm, blg, bpr, bhd, bnt⟩ := r
  unfold Od.cs
  simp only at HEQ ⊢
  have HF : Hid (∀ o1 o2 : Obj, Fr No w ((w.alloc o1).alloc o2)) := fun o1 o2 => ((Fr.refl _ _).alloc _).alloc _
  by_cases h1 : acl = bcl ∧ asq = bsq
  rotate_left
  · have hne := fun W => eq_id acl asq bcl bsq W h1
    have HB : Hid (eqO ⟨acl, asq, akd, aac, ape, asm, alg, apr, ahd, ant⟩ ⟨bcl, bsq, bkd, bac, bpe, bsm, blg, bpr, bhd, bnt⟩ = false) := by show _ = _; unfold eqO; rw [decide_eq_false h1]; rfl
    clear h1 HEQ
    go_enter Tryz.func40, Tryz.ntmps40
    go_wp2
    go_ret
    exact ⟨by rw [HB.out]; rfl, HF.out _ _⟩
  obtain ⟨rfl, rfl⟩ := h1
  by_cases h2 : akd = bkd
  rotate_left
  · have HB : Hid (eqO ⟨acl, asq, akd, aac, ape, asm, alg, apr, ahd, ant⟩ ⟨acl, asq, bkd, bac, bpe, bsm, blg, bpr, bhd, bnt⟩ = false) := by
      show _ = _
      cases hq : eqO ⟨acl, asq, akd, aac, ape, asm, alg, apr, ahd, ant⟩ ⟨acl, asq, bkd, bac, bpe, bsm, blg, bpr, bhd, bnt⟩ with
      | false => rfl
      | true =>
        have h3 := (eqO_iff _ _).1 hq
        simp only [Od.mk.injEq] at h3
        exfalso
        apply h2
        simp only [h3]
    have hz : (akd == bkd) = false := beq_eq_false_iff_ne.2 h2
    clear h2
    clear HEQ
    go_enter Tryz.func40, Tryz.ntmps40
    go_wp2
    go_ret
    exact ⟨by rw [HB.out]; rfl, HF.out _ _⟩
  subst h2
  by_cases h2 : aac.data.toList = bac.data.toList
  rotate_left
  · have HB : Hid (eqO ⟨acl, asq, akd, aac, ape, asm, alg, apr, ahd, ant⟩ ⟨acl, asq, akd, bac, bpe, bsm, blg, bpr, bhd, bnt⟩ = false) := by
      show _ = _
      cases hq : eqO ⟨acl, asq, akd, aac, ape, asm, alg, apr, ahd, ant⟩ ⟨acl, asq, akd, bac, bpe, bsm, blg, bpr, bhd, bnt⟩ with
      | false => rfl
      | true =>
        have h3 := (eqO_iff _ _).1 hq
        simp only [Od.mk.injEq] at h3
        exfalso
        apply h2
        simp only [h3]
    have hz : (aac.toList == bac.toList) = false := by rw [ByteArray.toList_eq, ByteArray.toList_eq]; exact beq_eq_false_iff_ne.2 h2
    clear h2
    clear HEQ
    go_enter Tryz.func40, Tryz.ntmps40
    go_wp2
    go_ret
    exact ⟨by rw [HB.out]; rfl, HF.out _ _⟩
  obtain rfl := bytes_ext h2
  by_cases h2 : ape.data.toList = bpe.data.toList
  rotate_left
  · have HB : Hid (eqO ⟨acl, asq, akd, aac, ape, asm, alg, apr, ahd, ant⟩ ⟨acl, asq, akd, aac, bpe, bsm, blg, bpr, bhd, bnt⟩ = false) := by
      show _ = _
      cases hq : eqO ⟨acl, asq, akd, aac, ape, asm, alg, apr, ahd, ant⟩ ⟨acl, asq, akd, aac, bpe, bsm, blg, bpr, bhd, bnt⟩ with
      | false => rfl
      | true =>
        have h3 := (eqO_iff _ _).1 hq
        simp only [Od.mk.injEq] at h3
        exfalso
        apply h2
        simp only [h3]
    have hz : (ape.toList == bpe.toList) = false := by rw [ByteArray.toList_eq, ByteArray.toList_eq]; exact beq_eq_false_iff_ne.2 h2
    clear h2
    clear HEQ
    go_enter Tryz.func40, Tryz.ntmps40
    go_wp2
    go_ret
    exact ⟨by rw [HB.out]; rfl, HF.out _ _⟩
  obtain rfl := bytes_ext h2
  by_cases h2 : asm = bsm
  rotate_left
  · have HB : Hid (eqO ⟨acl, asq, akd, aac, ape, asm, alg, apr, ahd, ant⟩ ⟨acl, asq, akd, aac, ape, bsm, blg, bpr, bhd, bnt⟩ = false) := by
      show _ = _
      cases hq : eqO ⟨acl, asq, akd, aac, ape, asm, alg, apr, ahd, ant⟩ ⟨acl, asq, akd, aac, ape, bsm, blg, bpr, bhd, bnt⟩ with
      | false => rfl
      | true =>
        have h3 := (eqO_iff _ _).1 hq
        simp only [Od.mk.injEq] at h3
        exfalso
        apply h2
        simp only [h3]
    have hz : (asm == bsm) = false := beq_eq_false_iff_ne.2 h2
    clear h2
    clear HEQ
    go_enter Tryz.func40, Tryz.ntmps40
    go_wp2
    go_ret
    exact ⟨by rw [HB.out]; rfl, HF.out _ _⟩
  subst h2
  by_cases h2 : alg = blg
  rotate_left
  · have HB : Hid (eqO ⟨acl, asq, akd, aac, ape, asm, alg, apr, ahd, ant⟩ ⟨acl, asq, akd, aac, ape, asm, blg, bpr, bhd, bnt⟩ = false) := by
      show _ = _
      cases hq : eqO ⟨acl, asq, akd, aac, ape, asm, alg, apr, ahd, ant⟩ ⟨acl, asq, akd, aac, ape, asm, blg, bpr, bhd, bnt⟩ with
      | false => rfl
      | true =>
        have h3 := (eqO_iff _ _).1 hq
        simp only [Od.mk.injEq] at h3
        exfalso
        apply h2
        simp only [h3]
    rw [decide_eq_false h2] at HEQ
    clear h2
    go_enter Tryz.func40, Tryz.ntmps40
    go_wp2_with fail
    refine (HEQ.out _ (HF.out _ _)).mono ?_
    rintro e w1 ⟨rfl, hf1⟩
    have x7 := (Blk.new w 39 #[.int .i64 acl, .int .i64 asq, .int .i64 akd, .string aac, .string ape, .int .i64 asm, v, .int .i64 apr, .int .i64 ahd, .string ant]).alloc (.cells #[.int .i64 acl, .int .i64 asq, .int .i64 akd, .string aac, .string ape, .int .i64 asm, u, .int .i64 bpr, .int .i64 bhd, .string bnt] 39) |>.fr hf1 (fun h => h)
    have y7 := (Blk.new (w.alloc (.cells #[.int .i64 acl, .int .i64 asq, .int .i64 akd, .string aac, .string ape, .int .i64 asm, v, .int .i64 apr, .int .i64 ahd, .string ant] 39)) 39 #[.int .i64 acl, .int .i64 asq, .int .i64 akd, .string aac, .string ape, .int .i64 asm, u, .int .i64 bpr, .int .i64 bhd, .string bnt]).fr hf1 (fun h => h)
    have z7 := x7.cell 7
    have z8 := x7.cell 8
    have z9 := x7.cell 9
    have t7 := y7.cell 7
    have t8 := y7.cell 8
    have t9 := y7.cell 9
    rw [World.size_alloc] at t7 t8 t9
    simp only [List.getElem?_toArray, List.getElem?_cons_zero, List.getElem?_cons_succ] at z7 z8 z9 t7 t8 t9
    have HF1 := Lib.hid ((HF.out _ _).trans hf1)
    clear x7 y7 hf1 HEQ
    go_wp2
    go_ret
    exact ⟨by rw [HB.out]; rfl, HF1.out⟩
  subst h2
  rw [decide_eq_true rfl] at HEQ
  by_cases h2 : apr = bpr
  rotate_left
  · have HB : Hid (eqO ⟨acl, asq, akd, aac, ape, asm, alg, apr, ahd, ant⟩ ⟨acl, asq, akd, aac, ape, asm, alg, bpr, bhd, bnt⟩ = false) := by
      show _ = _
      cases hq : eqO ⟨acl, asq, akd, aac, ape, asm, alg, apr, ahd, ant⟩ ⟨acl, asq, akd, aac, ape, asm, alg, bpr, bhd, bnt⟩ with
      | false => rfl
      | true =>
        have h3 := (eqO_iff _ _).1 hq
        simp only [Od.mk.injEq] at h3
        exfalso
        apply h2
        simp only [h3]
    have hz : (apr == bpr) = false := beq_eq_false_iff_ne.2 h2
    clear h2
    go_enter Tryz.func40, Tryz.ntmps40
    go_wp2_with fail
    refine (HEQ.out _ (HF.out _ _)).mono ?_
    rintro e w1 ⟨rfl, hf1⟩
    have x7 := (Blk.new w 39 #[.int .i64 acl, .int .i64 asq, .int .i64 akd, .string aac, .string ape, .int .i64 asm, v, .int .i64 apr, .int .i64 ahd, .string ant]).alloc (.cells #[.int .i64 acl, .int .i64 asq, .int .i64 akd, .string aac, .string ape, .int .i64 asm, u, .int .i64 bpr, .int .i64 bhd, .string bnt] 39) |>.fr hf1 (fun h => h)
    have y7 := (Blk.new (w.alloc (.cells #[.int .i64 acl, .int .i64 asq, .int .i64 akd, .string aac, .string ape, .int .i64 asm, v, .int .i64 apr, .int .i64 ahd, .string ant] 39)) 39 #[.int .i64 acl, .int .i64 asq, .int .i64 akd, .string aac, .string ape, .int .i64 asm, u, .int .i64 bpr, .int .i64 bhd, .string bnt]).fr hf1 (fun h => h)
    have z7 := x7.cell 7
    have z8 := x7.cell 8
    have z9 := x7.cell 9
    have t7 := y7.cell 7
    have t8 := y7.cell 8
    have t9 := y7.cell 9
    rw [World.size_alloc] at t7 t8 t9
    simp only [List.getElem?_toArray, List.getElem?_cons_zero, List.getElem?_cons_succ] at z7 z8 z9 t7 t8 t9
    have HF1 := Lib.hid ((HF.out _ _).trans hf1)
    clear x7 y7 hf1 HEQ
    go_wp2
    go_ret
    exact ⟨by rw [HB.out]; rfl, HF1.out⟩
  subst h2
  by_cases h2 : ahd = bhd
  rotate_left
  · have HB : Hid (eqO ⟨acl, asq, akd, aac, ape, asm, alg, apr, ahd, ant⟩ ⟨acl, asq, akd, aac, ape, asm, alg, apr, bhd, bnt⟩ = false) := by
      show _ = _
      cases hq : eqO ⟨acl, asq, akd, aac, ape, asm, alg, apr, ahd, ant⟩ ⟨acl, asq, akd, aac, ape, asm, alg, apr, bhd, bnt⟩ with
      | false => rfl
      | true =>
        have h3 := (eqO_iff _ _).1 hq
        simp only [Od.mk.injEq] at h3
        exfalso
        apply h2
        simp only [h3]
    have hz : (ahd == bhd) = false := beq_eq_false_iff_ne.2 h2
    clear h2
    go_enter Tryz.func40, Tryz.ntmps40
    go_wp2_with fail
    refine (HEQ.out _ (HF.out _ _)).mono ?_
    rintro e w1 ⟨rfl, hf1⟩
    have x7 := (Blk.new w 39 #[.int .i64 acl, .int .i64 asq, .int .i64 akd, .string aac, .string ape, .int .i64 asm, v, .int .i64 apr, .int .i64 ahd, .string ant]).alloc (.cells #[.int .i64 acl, .int .i64 asq, .int .i64 akd, .string aac, .string ape, .int .i64 asm, u, .int .i64 apr, .int .i64 bhd, .string bnt] 39) |>.fr hf1 (fun h => h)
    have y7 := (Blk.new (w.alloc (.cells #[.int .i64 acl, .int .i64 asq, .int .i64 akd, .string aac, .string ape, .int .i64 asm, v, .int .i64 apr, .int .i64 ahd, .string ant] 39)) 39 #[.int .i64 acl, .int .i64 asq, .int .i64 akd, .string aac, .string ape, .int .i64 asm, u, .int .i64 apr, .int .i64 bhd, .string bnt]).fr hf1 (fun h => h)
    have z7 := x7.cell 7
    have z8 := x7.cell 8
    have z9 := x7.cell 9
    have t7 := y7.cell 7
    have t8 := y7.cell 8
    have t9 := y7.cell 9
    rw [World.size_alloc] at t7 t8 t9
    simp only [List.getElem?_toArray, List.getElem?_cons_zero, List.getElem?_cons_succ] at z7 z8 z9 t7 t8 t9
    have HF1 := Lib.hid ((HF.out _ _).trans hf1)
    clear x7 y7 hf1 HEQ
    go_wp2
    go_ret
    exact ⟨by rw [HB.out]; rfl, HF1.out⟩
  subst h2
  by_cases h2 : ant.data.toList = bnt.data.toList
  rotate_left
  · have HB : Hid (eqO ⟨acl, asq, akd, aac, ape, asm, alg, apr, ahd, ant⟩ ⟨acl, asq, akd, aac, ape, asm, alg, apr, ahd, bnt⟩ = false) := by
      show _ = _
      cases hq : eqO ⟨acl, asq, akd, aac, ape, asm, alg, apr, ahd, ant⟩ ⟨acl, asq, akd, aac, ape, asm, alg, apr, ahd, bnt⟩ with
      | false => rfl
      | true =>
        have h3 := (eqO_iff _ _).1 hq
        simp only [Od.mk.injEq] at h3
        exfalso
        apply h2
        simp only [h3]
    have hz : (ant.toList == bnt.toList) = false := by rw [ByteArray.toList_eq, ByteArray.toList_eq]; exact beq_eq_false_iff_ne.2 h2
    clear h2
    go_enter Tryz.func40, Tryz.ntmps40
    go_wp2_with fail
    refine (HEQ.out _ (HF.out _ _)).mono ?_
    rintro e w1 ⟨rfl, hf1⟩
    have x7 := (Blk.new w 39 #[.int .i64 acl, .int .i64 asq, .int .i64 akd, .string aac, .string ape, .int .i64 asm, v, .int .i64 apr, .int .i64 ahd, .string ant]).alloc (.cells #[.int .i64 acl, .int .i64 asq, .int .i64 akd, .string aac, .string ape, .int .i64 asm, u, .int .i64 apr, .int .i64 ahd, .string bnt] 39) |>.fr hf1 (fun h => h)
    have y7 := (Blk.new (w.alloc (.cells #[.int .i64 acl, .int .i64 asq, .int .i64 akd, .string aac, .string ape, .int .i64 asm, v, .int .i64 apr, .int .i64 ahd, .string ant] 39)) 39 #[.int .i64 acl, .int .i64 asq, .int .i64 akd, .string aac, .string ape, .int .i64 asm, u, .int .i64 apr, .int .i64 ahd, .string bnt]).fr hf1 (fun h => h)
    have z7 := x7.cell 7
    have z8 := x7.cell 8
    have z9 := x7.cell 9
    have t7 := y7.cell 7
    have t8 := y7.cell 8
    have t9 := y7.cell 9
    rw [World.size_alloc] at t7 t8 t9
    simp only [List.getElem?_toArray, List.getElem?_cons_zero, List.getElem?_cons_succ] at z7 z8 z9 t7 t8 t9
    have HF1 := Lib.hid ((HF.out _ _).trans hf1)
    clear x7 y7 hf1 HEQ
    go_wp2
    go_ret
    exact ⟨by rw [HB.out]; rfl, HF1.out⟩
  obtain rfl := bytes_ext h2
  have HB : Hid (eqO ⟨acl, asq, akd, aac, ape, asm, alg, apr, ahd, ant⟩ ⟨acl, asq, akd, aac, ape, asm, alg, apr, ahd, ant⟩ = true) := (eqO_iff _ _).2 rfl
  go_enter Tryz.func40, Tryz.ntmps40
  go_wp2_with fail
  refine (HEQ.out _ (HF.out _ _)).mono ?_
  rintro e w1 ⟨rfl, hf1⟩
  have x7 := (Blk.new w 39 #[.int .i64 acl, .int .i64 asq, .int .i64 akd, .string aac, .string ape, .int .i64 asm, v, .int .i64 apr, .int .i64 ahd, .string ant]).alloc (.cells #[.int .i64 acl, .int .i64 asq, .int .i64 akd, .string aac, .string ape, .int .i64 asm, u, .int .i64 apr, .int .i64 ahd, .string ant] 39) |>.fr hf1 (fun h => h)
  have y7 := (Blk.new (w.alloc (.cells #[.int .i64 acl, .int .i64 asq, .int .i64 akd, .string aac, .string ape, .int .i64 asm, v, .int .i64 apr, .int .i64 ahd, .string ant] 39)) 39 #[.int .i64 acl, .int .i64 asq, .int .i64 akd, .string aac, .string ape, .int .i64 asm, u, .int .i64 apr, .int .i64 ahd, .string ant]).fr hf1 (fun h => h)
  have z7 := x7.cell 7
  have z8 := x7.cell 8
  have z9 := x7.cell 9
  have t7 := y7.cell 7
  have t8 := y7.cell 8
  have t9 := y7.cell 9
  rw [World.size_alloc] at t7 t8 t9
  simp only [List.getElem?_toArray, List.getElem?_cons_zero, List.getElem?_cons_succ] at z7 z8 z9 t7 t8 t9
  have HF1 := Lib.hid ((HF.out _ _).trans hf1)
  clear x7 y7 hf1 HEQ
  go_wp2
  go_ret
  exact ⟨by rw [HB.out]; rfl, HF1.out⟩
end Go.Proofs.YtkkhdjchfhmliaaGreat

namespace Go.Proofs.YtkkhdjchfhmliaaGreat
open Go.RowKit Go.My Go.Maps
set_option linter.unusedSimpArgs false
set_option linter.unusedVariables false

/-- an order's cells; its legs lie in memory as they came in with the world w0 -/
def OdR (w0 : World) (cs : List Value) (o : Od) : Prop := ∃ v, cs = o.cs v ∧ o.ok ∧ (∀ g ∈ o.legs, g.ok) ∧ LgS w0 (Lt w0.heap.size) v o.legs
/-- orders in a slice -/
def OdsS (w0 w : World) (F : Nat → Prop) (A : Option Addr) (l : List Od) : Prop := ∃ cells, Rd w F 10 A l.length cells ∧ Each (OdR w0) 10 cells l
section
variable {w0 w w' : World} {F G : Nat → Prop} {A : Option Addr} {l : List Od}
theorem OdsS.fr {S : Nat → Prop} (h : OdsS w0 w F A l) (hf : Fr S w w') (hn : ∀ k, F k → k < w.heap.size → ¬ S k) : OdsS w0 w' F A l := by
  obtain ⟨cells, hr, hE⟩ := h
  exact ⟨cells, hr.fr (by omega) hf hn, hE⟩
theorem OdsS.more (h : OdsS w0 w F A l) (hB : ∀ k, F k → G k) : OdsS w0 w G A l := by
  obtain ⟨cells, hr, hE⟩ := h
  exact ⟨cells, hr.more hB, hE⟩
theorem OdsS.below {B : Nat} (h : OdsS w0 w F A l) (hb : Below B w w') (hF : ∀ k, F k → k < B) : OdsS w0 w' F A l := by
  obtain ⟨cells, hr, hE⟩ := h
  exact ⟨cells, hr.below hb hF, hE⟩
theorem OdsS.ok (h : OdsS w0 w F A l) : ∀ o ∈ l, o.ok := fun o ho => by
  obtain ⟨cells, hr, hE⟩ := h
  obtain ⟨i, hi, rfl⟩ := List.getElem_of_mem ho
  obtain ⟨v, _, h1, _⟩ := hE.2 i _ (List.getElem?_eq_getElem hi)
  exact h1
/-- the order at k -/
theorem OdsS.at_ (h : OdsS w0 w F A l) (k : Nat) (hk : k < l.length) :
    ∃ ad v, A = some ad ∧ F ad.block ∧ l[k].ok ∧ (∀ g ∈ l[k].legs, g.ok) ∧ LgS w0 (Lt w0.heap.size) v l[k].legs ∧ w.cell? (ad.add (k * 10)) = some (.int .i64 l[k].cl) ∧ w.cell? ⟨(ad.add (k * 10)).block, (ad.add (k * 10)).off + 1, none⟩ = some (.int .i64 l[k].sq) ∧
      w.cell? ⟨(ad.add (k * 10)).block, (ad.add (k * 10)).off + 2, none⟩ = some (.int .i64 l[k].kd) ∧ w.cell? ⟨(ad.add (k * 10)).block, (ad.add (k * 10)).off + 3, none⟩ = some (.string l[k].acct) ∧
      w.cell? ⟨(ad.add (k * 10)).block, (ad.add (k * 10)).off + 4, none⟩ = some (.string l[k].peer) ∧ w.cell? ⟨(ad.add (k * 10)).block, (ad.add (k * 10)).off + 5, none⟩ = some (.int .i64 l[k].sum) ∧
      w.cell? ⟨(ad.add (k * 10)).block, (ad.add (k * 10)).off + 6, none⟩ = some v ∧ w.cell? ⟨(ad.add (k * 10)).block, (ad.add (k * 10)).off + 7, none⟩ = some (.int .i64 l[k].per) ∧
      w.cell? ⟨(ad.add (k * 10)).block, (ad.add (k * 10)).off + 8, none⟩ = some (.int .i64 l[k].hold) ∧ w.cell? ⟨(ad.add (k * 10)).block, (ad.add (k * 10)).off + 9, none⟩ = some (.string l[k].note) := by
  obtain ⟨cells, hr, hE⟩ := h
  obtain ⟨ad, rfl, hF, hc⟩ := hr.2 (by omega)
  obtain ⟨v, hcs, hok, hg, hL⟩ := hE.2 k l[k] (List.getElem?_eq_getElem hk)
  have hget : ∀ i, i < 10 → cells[k * 10 + i]? = (l[k].cs v)[i]? := fun i hi => by
    rw [← hcs, List.getElem?_take, if_pos hi, List.getElem?_drop]
  refine ⟨ad, v, rfl, hF, hok, hg, hL, hc (k * 10) _ (by have := hget 0 (by omega); rw [Nat.add_zero] at this; rw [this]; rfl), ?_, ?_, ?_, ?_, ?_, ?_, ?_, ?_, ?_⟩
  · rw [← add_lits ad (k * 10) 1 (by omega)]
    exact hc _ _ (by rw [hget 1 (by omega)]; rfl)
  · rw [← add_lits ad (k * 10) 2 (by omega)]
    exact hc _ _ (by rw [hget 2 (by omega)]; rfl)
  · rw [← add_lits ad (k * 10) 3 (by omega)]
    exact hc _ _ (by rw [hget 3 (by omega)]; rfl)
  · rw [← add_lits ad (k * 10) 4 (by omega)]
    exact hc _ _ (by rw [hget 4 (by omega)]; rfl)
  · rw [← add_lits ad (k * 10) 5 (by omega)]
    exact hc _ _ (by rw [hget 5 (by omega)]; rfl)
  · rw [← add_lits ad (k * 10) 6 (by omega)]
    exact hc _ _ (by rw [hget 6 (by omega)]; rfl)
  · rw [← add_lits ad (k * 10) 7 (by omega)]
    exact hc _ _ (by rw [hget 7 (by omega)]; rfl)
  · rw [← add_lits ad (k * 10) 8 (by omega)]
    exact hc _ _ (by rw [hget 8 (by omega)]; rfl)
  · rw [← add_lits ad (k * 10) 9 (by omega)]
    exact hc _ _ (by rw [hget 9 (by omega)]; rfl)
/-- legs stay as they came in -/
theorem LgS.keep0 {v : Value} {L : List Lg} (h : LgS w0 (Lt w0.heap.size) v L) (hb : Below w0.heap.size w0 w) : LgS w (Lt w0.heap.size) v L := h.below hb
/-- a row of orders -/
theorem Each.nilO (w0 : World) : Each (OdR w0) 10 [] [] := ⟨rfl, fun i x hx => by simp at hx⟩
theorem Each.snocO {w0 : World} {cells cs : List Value} {l : List Od} (h : Each (OdR w0) 10 cells l) {o : Od} (hl : cs.length = 10) (ho : OdR w0 cs o) : Each (OdR w0) 10 (cells ++ cs) (l ++ [o]) := by
  refine ⟨by rw [List.length_append, hl, h.1, List.length_append]; simp; omega, fun i x hx => ?_⟩
  by_cases hi : i < l.length
  · rw [List.getElem?_append_left hi] at hx
    have h1 := h.2 i x hx
    have h2 : i * 10 + 10 ≤ cells.length := by rw [h.1]; omega
    rw [List.drop_append_of_le_length (by omega), List.take_append_of_le_length (by rw [List.length_drop]; omega)]
    exact h1
  · rw [List.getElem?_append_right (by omega)] at hx
    have hi0 : i - l.length = 0 := by
      rcases Nat.eq_zero_or_pos (i - l.length) with h0 | h0
      · exact h0
      · rw [List.getElem?_eq_none (by simp; omega)] at hx; cases hx
    rw [hi0] at hx
    simp only [List.getElem?_cons_zero, Option.some.injEq] at hx
    subst hx
    have : i = l.length := by omega
    subst this
    rw [← h.1, List.drop_left, List.take_of_length_le (by omega)]
    exact ho
end
theorem elO : El Tryz.prog 22 39 10 120 := ⟨Tryz.underlying22, by
  have h : (Tryz.prog.info? 39).map (fun i => (i.zero, i.size, i.bytes)) = some (some (.agg #[.int .i64 0, .int .i64 0, .int .i64 0, .string ⟨#[]⟩, .string ⟨#[]⟩, .int .i64 0, .slice none 0 0, .int .i64 0, .int .i64 0, .string ⟨#[]⟩]), 10, 120) := by kernel_rfl
  obtain ⟨i, hi, hz, hs, hb⟩ := info_parts h
  exact ⟨i, _, hi, hz, hs, hb, rfl⟩, by omega⟩
theorem elR : El Tryz.prog 28 42 4 32 := ⟨Tryz.underlying28, by
  have h : (Tryz.prog.info? 42).map (fun i => (i.zero, i.size, i.bytes)) = some (some (.agg #[.int .i64 0, .int .i64 0, .int .i64 0, .int .i64 0]), 4, 32) := by kernel_rfl
  obtain ⟨i, hi, hz, hs, hb⟩ := info_parts h
  exact ⟨i, _, hi, hz, hs, hb, rfl⟩, by omega⟩
/-- replies as cells -/
def rpC (r : Rp) : List Value := [.int .i64 r.err, .int .i64 r.hv, .int .i64 r.st, .int .i64 r.num]
def rps (l : List Rp) : List Value := l.flatMap rpC
theorem rps_append (l m : List Rp) : rps (l ++ m) = rps l ++ rps m := by unfold rps; rw [List.flatMap_append]
theorem rps_one (r : Rp) : rps [r] = rpC r := by simp [rps]
theorem rps_length (l : List Rp) : (rps l).length = l.length * 4 := by
  induction l with
  | nil => rfl
  | cons a r ih => show (rpC a ++ rps r).length = _; rw [List.length_append, ih, List.length_cons]; simp [rpC]; omega
theorem rps_get (l : List Rp) : ∀ (k i : Nat) (hk : k < l.length), i < 4 → (rps l)[k * 4 + i]? = (rpC l[k])[i]? := by
  induction l with
  | nil => intro k i hk; simp at hk
  | cons a r ih =>
    intro k i hk hi
    show (rpC a ++ rps r)[k * 4 + i]? = _
    have ha : (rpC a).length = 4 := rfl
    cases k with
    | zero =>
      rw [Nat.zero_mul, Nat.zero_add, List.getElem?_append_left (by omega)]
      rfl
    | succ k =>
      rw [List.getElem?_append_right (by omega)]
      have : (k + 1) * 4 + i - (rpC a).length = k * 4 + i := by omega
      rw [this, ih k i (by simpa using hk) hi]
      rfl
/-- a reply in memory -/
theorem rp_at {w : World} {F : Nat → Prop} {A : Option Addr} {S : List Rp} (h : Rd w F 4 A S.length (rps S)) (k : Nat) (hk : k < S.length) :
    ∃ ad, A = some ad ∧ F ad.block ∧ w.cell? (ad.add (k * 4)) = some (.int .i64 S[k].err) ∧ w.cell? ⟨(ad.add (k * 4)).block, (ad.add (k * 4)).off + 1, none⟩ = some (.int .i64 S[k].hv) ∧
      w.cell? ⟨(ad.add (k * 4)).block, (ad.add (k * 4)).off + 2, none⟩ = some (.int .i64 S[k].st) ∧ w.cell? ⟨(ad.add (k * 4)).block, (ad.add (k * 4)).off + 3, none⟩ = some (.int .i64 S[k].num) := by
  obtain ⟨ad, rfl, hF, hc⟩ := h.2 (by omega)
  refine ⟨ad, rfl, hF, hc (k * 4) _ (by have := rps_get S k 0 hk (by omega); rw [Nat.add_zero] at this; rw [this]; rfl), ?_, ?_, ?_⟩
  · rw [← add_lits ad (k * 4) 1 (by omega)]
    exact hc _ _ (by rw [rps_get S k 1 hk (by omega)]; rfl)
  · rw [← add_lits ad (k * 4) 2 (by omega)]
    exact hc _ _ (by rw [rps_get S k 2 hk (by omega)]; rfl)
  · rw [← add_lits ad (k * 4) 3 (by omega)]
    exact hc _ _ (by rw [rps_get S k 3 hk (by omega)]; rfl)
section
open Go.ChangeShapes Go.WideShapes
variable {H : Type} {enc : TypeId × Value → H} {w : World} {base : Nat} {spare : Nat → Bool} {held : Bool}
/-- orders that came in -/
theorem open_ods {fuel : Nat} {cs : List Value} {x : DataW H × List MemPlace} (h : DataW.trod enc Tryz.prog w base spare held fuel 22 cs = some x) :
    ∃ (A : Option Addr) (c : Nat) (l : List Od), cs = [.slice A l.length c] ∧ OdsS w w (Lt w.heap.size) A l ∧ l.length ≤ c ∧ c ≤ maxLen := by
  obtain ⟨A, c, cells, l, h1, h2, h3, h4, h5⟩ := open_each (OdR w) Tryz.underlying22 (size := 10) (by kernel_rfl) (by omega) (fun n cs x hx => by
    obtain ⟨o, v, h1, h2, h3, h4⟩ := open_od hx
    exact ⟨o, v, h1, h2, h3, h4⟩) h
  exact ⟨A, c, l, h1, ⟨cells, h2, h5⟩, h3, h4⟩
end
end Go.Proofs.YtkkhdjchfhmliaaGreat

namespace Go.Proofs.YtkkhdjchfhmliaaGreat
open Go.RowKit Go.My Go.Maps
set_option linter.unusedSimpArgs false
set_option linter.unusedVariables false

theorem elL : El Tryz.prog 37 81 2 24 := ⟨Tryz.underlying37, by
  have h : (Tryz.prog.info? 81).map (fun i => (i.zero, i.size, i.bytes)) = some (some (.agg #[.string ⟨#[]⟩, .int .i64 0]), 2, 24) := by kernel_rfl
  obtain ⟨i, hi, hz, hs, hb⟩ := info_parts h
  exact ⟨i, _, hi, hz, hs, hb, rfl⟩, by omega⟩
/-- a leg's cells -/
def lgC (g : Lg) : List Value := [.string g.acct, .int .i64 g.sum]
def lgs (L : List Lg) : List Value := L.flatMap lgC
theorem lgs_length (L : List Lg) : (lgs L).length = L.length * 2 := by
  induction L with
  | nil => rfl
  | cons g r ih => show (lgC g ++ lgs r).length = _; rw [List.length_append, ih]; simp [lgC]; omega
theorem lgs_append (L R : List Lg) : lgs (L ++ R) = lgs L ++ lgs R := by unfold lgs; rw [List.flatMap_append]
theorem lgs_ones (L : List Lg) : ∀ y ∈ lgs L, y.oneCell' = true := by
  intro y hy
  unfold lgs at hy
  rw [List.mem_flatMap] at hy
  obtain ⟨a, _, ha⟩ := hy
  simp only [lgC, List.mem_cons, List.not_mem_nil, or_false] at ha
  rcases ha with rfl | rfl <;> rfl
theorem lgs_each : ∀ L : List Lg, (∀ g ∈ L, g.ok) → Each RdLg 2 (lgs L) L
  | [], _ => ⟨rfl, fun i x hx => by simp at hx⟩
  | g :: r, h => by
    obtain ⟨h1, h2⟩ := lgs_each r fun x hx => h x (List.mem_cons_of_mem _ hx)
    refine ⟨lgs_length _, fun i x hx => ?_⟩
    cases i with
    | zero =>
      simp only [List.getElem?_cons_zero, Option.some.injEq] at hx
      subst hx
      exact ⟨rfl, h g List.mem_cons_self⟩
    | succ i =>
      rw [List.getElem?_cons_succ] at hx
      have := h2 i x hx
      show RdLg (((lgC g ++ lgs r).drop ((i + 1) * 2)).take 2) x
      rw [List.drop_append, List.drop_of_length_le (by simp [lgC]; omega)]
      simpa [lgC, show (i + 1) * 2 - 2 = i * 2 by omega] using this
/-- cells of legs are these -/
theorem each_lgs : ∀ (L : List Lg) (cells : List Value), Each RdLg 2 cells L → cells = lgs L
  | [], cells, h => by
    have := h.1
    simp at this
    rw [this]
    rfl
  | g :: r, cells, h => by
    have h0 := (h.2 0 g rfl).1
    rw [Nat.zero_mul, List.drop_zero] at h0
    have hr := each_lgs r (cells.drop 2) ⟨by rw [List.length_drop, h.1, List.length_cons]; omega, fun i x hx => by
      have := h.2 (i + 1) x (by rw [List.getElem?_cons_succ]; exact hx)
      rw [List.drop_drop]
      rwa [show 2 + i * 2 = (i + 1) * 2 by omega]⟩
    show cells = lgC g ++ lgs r
    have e := List.take_append_drop 2 cells
    rw [h0, hr] at e
    exact e.symm

end Go.Proofs.YtkkhdjchfhmliaaGreat
