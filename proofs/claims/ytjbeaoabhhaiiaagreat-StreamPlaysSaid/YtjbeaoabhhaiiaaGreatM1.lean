/- Replies, as they are in lists. Maps from numbers to values of any kind (functions, structs of them) that the call makes: of no program. A region that draws its order, by an invariant: of no program. A region that draws its order, whose operations and callees keep to a class of worlds: one walk of the text's order serves every order. Of no program. A region taken out of a function's code, so that a lemma can speak of it alone. Of no program. Contracts of package order: shapes. Contracts of package order: shapes, as a table. Contracts of package order: what the fields of a kind's orders may be. Contracts of package order: legs. Contracts of package order: rightLegs. Contracts of package order: Right. Contracts of package order: Right, its first region. Contracts of package order: Right. A book's accounts and holds, as lists: what is set aside of an account is what its holds have together, whatever names there are. What a book tells of an order, and what it has behind it: in lists. Of no walk. Orders that do not clash may change places: the same is told of each, and the book is the same. In lists, of no walk. The library's slices.DeleteFunc, Sort and Compact of strings at this program: the kit's own laying, by its tool, at this program's numbers. Texts in order, each once: of no program. slices.DeleteFunc, Sort and Compact of strings, of rows of the call's own. append(nil, make(..)...): of no program. order.Touches: the accounts that an order names. Orders as they come in and lie in memory: their readers. A map of Ids (two ints) to ints: where each order of a list stands last. Lists, the key, the map in memory. Which orders clash, in lists. Of no walk. Contracts of package order: Same. Lists whose elements may change places where they do not clash: which lists are alike, begin one another, and meet. Of no program. Which lists begin one another, as the program reckons it, and as it is said. Of no walk. Orders that do not clash may change places: what an order looks at, and changes; lists that are alike tell the same. In lists, of no walk. What happens on an account, in a list of orders: events. In lists, of no walk. Maps from texts to values of any kind (rows, structs) that the call makes: of no program. -/
import Derived.Test.YtjbeaoabhhaiiaaGreatKit0
import Derived.Test.YtjbeaoabhhaiiaaGreatCoinsMath
import Derived.Test.YtjbeaoabhhaiiaaGreatLib
import Derived.Maps.Ext
import Derived.Maps.OwnSet
import Derived.Maps.OwnOps
import Derived.RegionTactic
import Derived.Deep.QuietTactic
import Derived.BigQuiet
import Derived.Test.YtjbeaoabhhaiiaaGreatLg
import Derived.Laws.EntriesVeiled
import Derived.Deep.DrawnRows
import Derived.Sort.Walk0
import Derived.Deep.RegionHeld3
import Derived.Test.YtjbeaoabhhaiiaaGreatHoldS4
import Derived.Shelf.SlicesE.DeleteFunc
import Derived.Shelf.SlicesE.Compact
import Derived.Shelf.SortM.Plain
import Derived.Shelf.SortM.SortNone
import Derived.Ground.SlgfProg
import Derived.Ground.SlgnProg
import Derived.Ground.SlgmProg
import Derived.Test.YtjbeaoabhhaiiaaGreatProg
import Derived.Sort.EncStr
import Derived.Sort.Grow
import Derived.Lib.SlicesCompact
import Derived.Lib.RowBridge
import Derived.Test.YtjbeaoabhhaiiaaGreatLib2
import Derived.Test.YtjbeaoabhhaiiaaGreatOpen
import Derived.Test.YtjbeaoabhhaiiaaGreatChart2
import Derived.DeepKeys4
import Derived.Maps.RangeWalk
import Derived.StringKeys
import Init
namespace Go.Proofs.YtjbeaoabhhaiiaaGreat
open Go.RowKit Go.My Go.Maps
set_option linter.unusedSimpArgs false
set_option linter.unusedVariables false
/-- a reply -/
structure Rp where
  err : Int
  hv : Int
  st : Int
  num : Int
instance : DecidableEq Rp := fun a b =>
  if h : a.err = b.err ∧ a.hv = b.hv ∧ a.st = b.st ∧ a.num = b.num then isTrue (by cases a; cases b; simp_all) else isFalse (fun e => h (by subst e; exact ⟨rfl, rfl, rfl, rfl⟩))
def Rp.ok (r : Rp) : Prop := In64 r.err ∧ In64 r.hv ∧ In64 r.st ∧ In64 r.num
def Rp.val (r : Rp) : Value := .agg #[.int .i64 r.err, .int .i64 r.hv, .int .i64 r.st, .int .i64 r.num]
end Go.Proofs.YtjbeaoabhhaiiaaGreat

namespace Go.My
open Go Go.RowKit Go.Maps
set_option linter.unusedSimpArgs false
set_option linter.unusedVariables false

def heldR (v : Value) : Option (DataW Value × List MemPlace) := some (.held v, [])
theorem isKey_int (k : Int) : WideAt.IsKeyLit (.int .i64 k) := by unfold WideAt.IsKeyLit; exact True.intro
/-- block m is such a map: what it holds, by key -/
def Tab (P : Program) (kt : TypeId) (w : World) (m n : Nat) (f : Int → Option Value) : Prop :=
  ∃ D : DataW Value, w.ownsMap P kt heldR m n D ∧ Tidy D ∧ (∀ k, In64 k → Maps.has D (.int .i64 k) = (f k).isSome) ∧ ∀ k, In64 k → ∀ z, D.atKey (.int .i64 k) z = match f k with | some v => .held v | none => z
section
variable {P : Program} {kt : TypeId} {w w' : World} {m n : Nat} {f : Int → Option Value}
theorem Tab.lt (h : Tab P kt w m n f) : m < w.heap.size := by obtain ⟨D, h, _⟩ := h; exact h.lt
theorem Tab.fr {F : Nat → Prop} (h : Tab P kt w m n f) (hf : Fr F w w') (hn : ¬ F m) : Tab P kt w' m n f := by
  obtain ⟨D, ⟨es, clock, hb, r⟩, r2⟩ := h
  exact ⟨D, ⟨es, clock, (hf.block m (Array.getElem?_eq_some_iff.1 hb).1 hn).trans hb, r⟩, r2⟩
theorem Tab.made (w : World) : Tab P kt (w.alloc (.map #[] 0)) w.heap.size 0 (fun _ => none) :=
  ⟨.map [], World.ownsMap_made _ _ _ _, tidy_empty, fun _ _ => rfl, fun _ _ _ => rfl⟩
theorem key_i64 (hk : P.underlying kt = some (.int .i64)) {k : Int} (h : In64 k) : keyOf P kt (.int .i64 k) = some (.int .i64 k) := by
  refine keyOf_int_mk hk ?_
  unfold In64 at h
  unfold Lit.wf IntKind.min IntKind.max
  simp [IntKind.signed, IntKind.bits]
  omega
theorem Tab.put (h : Tab P kt w m n f) (hk : P.underlying kt = some (.int .i64)) {t e : TypeId} (ht : P.underlying t = some (.map kt e)) (hn : n < maxLen) (k : Int) (hK : In64 k) (v : Value) :
    ∃ w', (Instr.mapUpdate t (.map (some m)) (.int .i64 k) v).run P w = .ok () w' ∧ Tab P kt w' m (n + 1) (fun j => if j = k then some v else f j) ∧ Fr (At1 m) w w' := by
  obtain ⟨D, ho, hT, hh, ha⟩ := h
  obtain ⟨w', hrun, hown, hg⟩ := ho.update (int_keyed hk) ht hn (key_i64 hk hK) (show heldR v = some (.held v, []) from rfl)
  refine ⟨w', hrun, ⟨_, hown, hT.put (isKey_int k) _, fun j hj => ?_, fun j hj z => ?_⟩, ⟨hg.os, hg.tape, hg.output, hg.size, fun i hi hn => hg.block i hi (fun e => hn (by injection e with e))⟩⟩
  · by_cases e : j = k
    · subst e
      rw [has_put_same hT.isMap (isKey_int _)]
      simp
    · rw [has_put_other (fun e2 => e (by injection e2)), hh j hj]
      simp [e]
  · by_cases e : j = k
    · subst e
      rw [atKey_put_same hT.isMap (isKey_int _)]
      simp
    · rw [atKey_put_other (fun e2 => e (by injection e2)), ha j hj z]
      simp [e]
theorem Tab.look_ok (h : Tab P kt w m n f) (hk : P.underlying kt = some (.int .i64)) {t e : TypeId} (ht : P.underlying t = some (.map kt e)) {z : Value} (hz : (zeroValue e).run P w = .ok z w) (k : Int) (hK : In64 k) :
    (Instr.lookup t (.map (some m)) (.int .i64 k) true).run P w = .ok (.tuple #[(f k).getD z, .bool (f k).isSome]) w := by
  obtain ⟨D, ho, hT, hh, ha⟩ := h
  obtain ⟨v, ps, hrun, hv⟩ := ho.look_ok (int_keyed hk) ht hz (show heldR z = some (.held z, []) from rfl) (key_i64 hk hK)
  rw [hh k hK] at hrun
  rw [ha k hK] at hv
  cases hf : f k with
  | none =>
    rw [hf] at hrun hv
    injection hv with hv
    injection hv with hv _
    injection hv with hv
    rw [hrun, hv]
    rfl
  | some u =>
    rw [hf] at hrun hv
    injection hv with hv
    injection hv with hv _
    injection hv with hv
    rw [hrun, hv]
    rfl
theorem Tab.look (h : Tab P kt w m n f) (hk : P.underlying kt = some (.int .i64)) {t e : TypeId} (ht : P.underlying t = some (.map kt e)) {z : Value} (hz : (zeroValue e).run P w = .ok z w) (k : Int) (hK : In64 k) :
    (Instr.lookup t (.map (some m)) (.int .i64 k) false).run P w = .ok ((f k).getD z) w := by
  obtain ⟨D, ho, hT, hh, ha⟩ := h
  obtain ⟨v, ps, hrun, hv⟩ := ho.lookup (int_keyed hk) ht hz (show heldR z = some (.held z, []) from rfl) (key_i64 hk hK)
  rw [ha k hK] at hv
  cases hf : f k with
  | none =>
    rw [hf] at hv
    injection hv with hv
    injection hv with hv _
    injection hv with hv
    rw [hrun, hv]
    rfl
  | some u =>
    rw [hf] at hv
    injection hv with hv
    injection hv with hv _
    injection hv with hv
    rw [hrun, hv]
    rfl
theorem wpList_tab (w : World) {ops : Array Oper} {rest : List Oper} {o : Oper} {a : Act} {Q : Exit → Act → World → Prop} (hg : o.guard = none) (x y z : Operand) {t e : TypeId} (hop : o.op = Op.mapUpdate t x y z)
    (hx : a.eval x = .map (some m)) (h : Tab P kt w m n f) (hk : P.underlying kt = some (.int .i64)) (ht : P.underlying t = some (.map kt e)) (k : Int) (v : Value) (hy : a.eval y = .int .i64 k) (hz : a.eval z = v) (hK : In64 k) (hl : n < maxLen)
    (hC : ∀ w', Tab P kt w' m (n + 1) (fun j => if j = k then some v else f j) → Fr (At1 m) w w' → wpList P ops Q rest (a.put o.dst undef) w') : wpList P ops Q (o :: rest) a w := by
  refine wpList_plain hg fun K' hK' => ?_
  obtain ⟨w', hrun, r1, r2⟩ := h.put hk ht hl k hK v
  unfold Oper.wp
  simp [execOp, hop, hx, hy, hz, hrun, Result.andThen]
  exact hK' _ _ (hC w' r1 r2)
end
end Go.My

namespace Go.My
open Go Go.RowKit
set_option linter.unusedSimpArgs false
set_option linter.unusedVariables false

/-- what has not come up yet -/
def unl (l : Array Bool) : Nat := l.countP (fun b => b == false)
theorem unl_set {l : Array Bool} {i : Nat} (h : l.getD i true = false) : unl (l.setIfInBounds i true) + 1 = unl l := by
  have hlt : i < l.size := by
    rcases Nat.lt_or_ge i l.size with h' | h'
    · exact h'
    · simp [h'] at h
  have hv : l[i] = false := by simpa [hlt] using h
  have e : l.setIfInBounds i true = l.set i true hlt := by simp [Array.setIfInBounds, hlt]
  unfold unl
  rw [e, Array.countP_set hlt, hv]
  simp only [beq_self_eq_true, if_true]
  have hpos : 0 < l.countP (fun b => b == false) := Array.countP_pos_iff.2 ⟨l[i], Array.getElem_mem hlt, by rw [hv]; rfl⟩
  have : (true == false) = false := rfl
  rw [this]
  simp only [Bool.false_eq_true, if_false]
  omega
theorem unl_zero {l : Array Bool} (h : unl l = 0) (i : Nat) : l.getD i true = true := by
  rcases Nat.lt_or_ge i l.size with h' | h'
  · have := Array.countP_eq_zero.1 h l[i] (Array.getElem_mem h')
    simpa [h'] using this
  · simp [h']
theorem unl_least {l : Array Bool} (h : unl l ≠ 0) : ∃ i, i < l.size ∧ l.getD i true = false ∧ ∀ j, j < i → l.getD j false = true := by
  obtain ⟨b, hb, hb2⟩ := Array.countP_pos_iff.1 (Nat.pos_of_ne_zero h)
  obtain ⟨k, hk, rfl⟩ := Array.getElem_of_mem hb
  have hk2 : l.getD k true = false := by simpa [hk] using hb2
  clear hb hb2 h
  induction k using Nat.strongRecOn with
  | _ k ih =>
    by_cases hx : ∃ j, j < k ∧ l.getD j false = false
    · obtain ⟨j, hj, hjf⟩ := hx
      have hjl : j < l.size := by omega
      exact ih j hj hjl (by simpa [hjl] using hjf)
    · refine ⟨k, hk, hk2, fun j hj => ?_⟩
      cases hq : l.getD j false with
      | true => rfl
      | false => exact absurd ⟨j, hj, hq⟩ hx
section
variable {P : Program} {ops : Array Oper} {Q : Exit → Act → World → Prop} {md : Region.Mode}
theorem wpAny_inv (Inv : Array Bool → Act → World → Prop) (hsz : ∀ l a w, Inv l a w → l.size = ops.size)
    (hback : ∀ i o, ops[i]? = some o → ∀ e ∈ o.after, Region.binds md e = true → e.on < i)
    (hstep : ∀ l a w i o, Inv l a w → ops[i]? = some o → l.getD i true = false → (∀ e ∈ o.after, Region.binds md e = true → l.getD e.on false = true) → wpOp P ops Q i (Inv (l.setIfInBounds i true)) a w)
    (hend : ∀ l a w, Inv l a w → (∀ i, i < ops.size → l.getD i false = true) → Q .normal a w) :
    ∀ fuel l a w, Inv l a w → unl l = fuel → wpAny P md ops Q fuel l a w := by
  intro fuel
  induction fuel with
  | zero =>
    intro l a w h hu
    refine ⟨?_, hend l a w h fun i hi => ?_⟩
    · cases hr : Region.ready md ops l with
      | nil => rfl
      | cons j t =>
        have hj : j ∈ Region.ready md ops l := by rw [hr]; exact List.mem_cons_self
        have h1 := (mem_ready.1 hj).1
        rw [unl_zero hu j] at h1
        cases h1
    · have h1 := unl_zero hu i
      have h2 : i < l.size := by rw [hsz l a w h]; exact hi
      simpa [h2] using h1
  | succ fuel ih =>
    intro l a w h hu
    refine ⟨fun hr => ?_, fun i hi => ?_⟩
    · obtain ⟨i, hi, hf, hlt⟩ := unl_least (l := l) (by omega)
      have hio : i < ops.size := by rw [← hsz l a w h]; exact hi
      have : i ∈ Region.ready md ops l := mem_ready.2 ⟨hf, ops[i], Array.getElem?_eq_getElem hio, fun e he hb => hlt _ (hback i _ (Array.getElem?_eq_getElem hio) e he hb)⟩
      rw [hr] at this
      cases this
    · obtain ⟨hf, o, ho, hall⟩ := mem_ready.1 hi
      refine wpOp_mono (fun a' w' h' => ih _ _ _ h' ?_) (hstep l a w i o h ho hf hall)
      have := unl_set hf
      omega
theorem wp_region_inv {id : Nat} {a : Act} {w : World} (hm : P.follows .mixedOrders = true) (Inv : Array Bool → Act → World → Prop) (hsz : ∀ l a w, Inv l a w → l.size = ops.size)
    (hback : ∀ i o, ops[i]? = some o → ∀ e ∈ o.after, Region.binds .any e = true → e.on < i)
    (hstep : ∀ l a w i o, Inv l a w → ops[i]? = some o → l.getD i true = false → (∀ e ∈ o.after, Region.binds .any e = true → l.getD e.on false = true) → wpOp P ops Q i (Inv (l.setIfInBounds i true)) a w)
    (hend : ∀ l a w, Inv l a w → (∀ i, i < ops.size → l.getD i false = true) → Q .normal a w)
    (h0 : Inv (Array.replicate ops.size false) a w.drew) : (Code.region id ops true).wp P Q a w := by
  refine wp_region_any hm (wpAny_inv Inv hsz hback hstep hend _ _ _ _ h0 ?_)
  unfold unl
  rw [Array.countP_replicate]
  simp
end
end Go.My

namespace Go.My
open Go
set_option linter.unusedVariables false

/-- a world of a class -/
structure WIn (D : World → Prop) where
  W : World
  h : D W
theorem wp_region_in {P : Program} {D : World → Prop} {id : Nat} {Q : Exit → Act → World → Prop} {a : Act} {w : World} {l : List Oper} (hm : P.follows .mixedOrders = true) (hB : Region.lexB .any l.toArray = true) (hD : D w.drew)
    (h : wpQuiet P l.toArray (fun w' => ∃ x : WIn D, w' = x.W) (fun a' => ∀ w', (∃ x : WIn D, w' = x.W) → Q .normal a' w') l a) : (Code.region id l.toArray true).wp P Q a w :=
  wp_region_quiet (C := fun w' => ∃ x : WIn D, w' = x.W) hm hB ⟨⟨_, hD⟩, rfl⟩ (by simpa using h)
/-- a callee that keeps to the class -/
theorem Calls.in_of {P : Program} {D : World → Prop} {f : FuncId} {args : Array Value} {v : Value} (x : WIn D) (h : ∀ W, D W → Calls P f args W fun e w' => e = .returned v ∧ D w') :
    Calls P f args x.W fun e w' => e = .returned v ∧ ∃ y : WIn D, w' = y.W :=
  (h x.W x.h).mono fun _ w' h => ⟨h.1, ⟨w', h.2⟩, rfl⟩
end Go.My

namespace Go.My
open Go
/-- region number n of a code -/
def findR (n : Nat) : Code → Option Code
  | .region i ops d => if i = n then some (.region i ops d) else none
  | .seq a b => match findR n a with
    | some c => some c
    | none => findR n b
  | .cond _ a b => match findR n a with
    | some c => some c
    | none => findR n b
  | .block _ c => findR n c
  | .loop c => findR n c
  | .scope c => findR n c
  | _ => none
def opsOf : Code → Array Oper
  | .region _ o _ => o
  | _ => #[]
def regOf (n : Nat) (f : Func) : Code := (f.body.bind (findR n)).getD .skip
end Go.My

namespace Go.Proofs.YtjbeaoabhhaiiaaGreat
open Go.RowKit Go.My Go.Maps
set_option linter.unusedSimpArgs false
set_option linter.unusedVariables false

def fnV (f : FuncId) : Value := .func (.func f) #[] #[]
/-- the functions that look at the fields of a kind's orders -/
def shp (a b c d e f g : FuncId) : Array Value := #[fnV a, fnV b, fnV c, fnV d, fnV e, fnV f, fnV g]

/-- what a slot holds when so much is done -/
def shSlot (p : Nat) (E : Array Value) (g : Nat → Nat) (L : Nat → Bool) (k : Nat) : Value :=
  if k = 0 then .map none else if k = 1 then .pointer (some ⟨p, 0, none⟩) else if k < 9 then (if L (k + 5) then .pointer (some ⟨g (k - 2), 0, none⟩) else undef)
  else if k = 9 then .agg E else if k < 17 then (if L (k - 10) then .agg E else undef) else undef
def zs7 : Array Value := #[.nilFunc, .nilFunc, .nilFunc, .nilFunc, .nilFunc, .nilFunc, .nilFunc]
structure ShInv (w0 : World) (p : Nat) (E : Array Value) (l : Array Bool) (a : Act) (w : World) : Prop where
  size : l.size = 21
  len : a.tmps.size = 42
  defs : a.defers = []
  src : Blk w p 143 E
  fr : Fr No w0 w
  dep : ∀ j, j < 7 → l.getD (14 + j) false = true → l.getD (7 + j) false = true
  mem : ∃ g : Nat → Nat, (∀ k, k < 42 → a.tmps[k]? = some (shSlot p E g (fun i => l.getD i false) k)) ∧
    (∀ j, j < 7 → l.getD (7 + j) false = true → w0.heap.size ≤ g j ∧ Blk w (g j) 143 (if l.getD (14 + j) false = true then E else zs7)) ∧
    (∀ j k, j < 7 → k < 7 → l.getD (7 + j) false = true → l.getD (7 + k) false = true → g j = g k → j = k)

theorem ex_load {ρ : Operand → Value} {o : Oper} {x : Operand} {p : Nat} {w : World} {c0 c1 c2 c3 c4 c5 c6 : Value} (hop : o.op = .load 143 x) (hx : ρ x = .pointer (some ⟨p, 0, none⟩)) (hb : Blk w p 143 #[c0, c1, c2, c3, c4, c5, c6]) :
    (execOp ρ o).run Tryz.prog w = .ok (.value (.agg #[c0, c1, c2, c3, c4, c5, c6])) w := by
  have h0 := hb.cell 0
  have h1 := hb.cell 1
  have h2 := hb.cell 2
  have h3 := hb.cell 3
  have h4 := hb.cell 4
  have h5 := hb.cell 5
  have h6 := hb.cell 6
  simp only [List.getElem?_toArray, List.getElem?_cons_zero, List.getElem?_cons_succ] at h0 h1 h2 h3 h4 h5 h6
  unfold execOp
  rw [hop]
  simp [hx, go_sem, h0, h1, h2, h3, h4, h5, h6]
theorem ex_alloc {ρ : Operand → Value} {o : Oper} {w : World} (hop : o.op = .alloc 143) :
    (execOp ρ o).run Tryz.prog w = .ok (.value (.pointer (some ⟨w.heap.size, 0, none⟩))) (w.alloc (.cells zs7 143)) := by
  unfold execOp
  rw [hop]
  simp [go_sem, zs7]
noncomputable def sh2s : { c : Code // regOf 2 Tryz.f63 = c } := ⟨_, by conv => lhs; whnf⟩
noncomputable def sh2 : Code := sh2s.1
def okB (i : Nat) (o : Oper) : Bool :=
  o.after.all (fun e => !Region.binds .any e || decide (e.on < i)) &&
  match o.op, o.dst, o.guard with
  | .load t (.tmp x), some d, none => decide (i < 7) && decide (t = 143) && decide (x = 1) && decide (d = 10 + i)
  | .alloc t, some d, none => decide (7 ≤ i) && decide (i < 14) && decide (t = 143) && decide (d + 5 = i)
  | .store t (.tmp x) (.tmp y), none, none => decide (14 ≤ i) && decide (i < 21) && decide (t = 143) && decide (x + 12 = i) && decide (y + 4 = i) && o.after.toList.any (fun e => decide (e.on + 7 = i) && Region.binds .any e) && o.after.toList.any (fun e => decide (e.on + 14 = i) && Region.binds .any e)
  | _, _, _ => false
theorem sh2_ok : (opsOf sh2).toList.zipIdx.all (fun x => okB x.2 x.1) = true := by kernel_rfl
theorem sh2_size : (opsOf sh2).size = 21 := by kernel_rfl
theorem sh2_at {i : Nat} {o : Oper} (h : (opsOf sh2)[i]? = some o) : okB i o = true := by
  have h1 := List.all_eq_true.1 sh2_ok (o, i) (by
    rw [List.mem_zipIdx_iff_getElem?]
    simpa using h)
  exact h1
theorem okB_back {i : Nat} {o : Oper} (h : okB i o = true) : ∀ e ∈ o.after, Region.binds .any e = true → e.on < i := by
  intro e he hb
  unfold okB at h
  rw [Bool.and_eq_true, Array.all_eq_true_iff_forall_mem] at h
  have := h.1 e he
  rw [hb] at this
  simpa using this
theorem tmp5 (d i : Nat) (h : d + 5 = i) (h7 : 7 ≤ i) : d = i - 7 + 2 := by omega
theorem tmp12 (d i : Nat) (h : d + 12 = i) (h7 : 14 ≤ i) : d = i - 14 + 2 := by omega
theorem tmp4 (d i : Nat) (h : d + 4 = i) (h7 : 14 ≤ i) : d = 10 + (i - 14) := by omega
/-- the three kinds of operations -/
theorem okB_kind {i : Nat} {o : Oper} (h : okB i o = true) : o.guard = none ∧
    ((i < 7 ∧ o.op = .load 143 (.tmp 1) ∧ o.dst = some (10 + i)) ∨
     (∃ j, j < 7 ∧ i = 7 + j ∧ o.op = .alloc 143 ∧ o.dst = some (j + 2)) ∨
     (∃ j, j < 7 ∧ i = 14 + j ∧ o.op = .store 143 (.tmp (j + 2)) (.tmp (10 + j)) ∧ o.dst = none ∧ (∃ e ∈ o.after, e.on = 7 + j ∧ Region.binds .any e = true) ∧ ∃ e ∈ o.after, e.on = j ∧ Region.binds .any e = true)) := by
  unfold okB at h
  rw [Bool.and_eq_true] at h
  obtain ⟨-, h⟩ := h
  split at h
  · rename_i t x d hop hd hg
    simp only [Bool.and_eq_true, decide_eq_true_eq] at h
    obtain ⟨⟨⟨h1, rfl⟩, rfl⟩, rfl⟩ := h
    exact ⟨hg, .inl ⟨h1, hop, hd⟩⟩
  · rename_i t d hop hd hg
    simp only [Bool.and_eq_true, decide_eq_true_eq] at h
    obtain ⟨⟨⟨h1, h2⟩, rfl⟩, h3⟩ := h
    exact ⟨hg, .inr (.inl ⟨i - 7, by omega, by omega, hop, by rw [hd, show d = i - 7 + 2 from tmp5 d i h3 h1]⟩)⟩
  · rename_i t x y hop hd hg
    simp only [Bool.and_eq_true, decide_eq_true_eq, List.any_eq_true, Array.mem_toList_iff] at h
    obtain ⟨⟨⟨⟨⟨⟨h1, h2⟩, rfl⟩, h3⟩, h4⟩, e1, he1, h5, h6⟩, e2, he2, h7, h8⟩ := h
    refine ⟨hg, .inr (.inr ⟨i - 14, by omega, by omega, ?_, hd, ⟨e1, he1, by omega, h6⟩, e2, he2, by omega, h8⟩)⟩
    rw [hop, show x = i - 14 + 2 from tmp12 x i h3 h1, show y = 10 + (i - 14) from tmp4 y i h4 h1]
  · cases h
theorem getD_set (l : Array Bool) (i n : Nat) (hi : i < l.size) : (l.setIfInBounds i true).getD n false = ((n == i) || l.getD n false) := by
  by_cases e : n = i
  · subst e
    simp [hi]
  · rw [getD_set_ne false (fun h => e h.symm)]
    simp [e]
theorem slot_other {p : Nat} {E : Array Value} {g g' : Nat → Nat} {L L' : Nat → Bool} {k : Nat} (h1 : ∀ n, n < 21 → (n + 10 = k ∧ k < 17) ∨ (n = k + 5 ∧ 2 ≤ k ∧ k < 9) → L' n = L n) (h2 : ∀ n, n + 2 = k → g' n = g n) : shSlot p E g' L' k = shSlot p E g L k := by
  unfold shSlot
  by_cases c0 : k = 0
  · rw [if_pos c0, if_pos c0]
  rw [if_neg c0, if_neg c0]
  by_cases c1 : k = 1
  · rw [if_pos c1, if_pos c1]
  rw [if_neg c1, if_neg c1]
  by_cases c9 : k < 9
  · rw [if_pos c9, if_pos c9, h1 (k + 5) (by omega) (.inr ⟨rfl, by omega, by omega⟩), h2 (k - 2) (by omega)]
  rw [if_neg c9, if_neg c9]
  by_cases d9 : k = 9
  · rw [if_pos d9, if_pos d9]
  rw [if_neg d9, if_neg d9]
  by_cases c17 : k < 17
  · rw [if_pos c17, if_pos c17, h1 (k - 10) (by omega) (.inl ⟨by omega, by omega⟩)]
  rw [if_neg c17, if_neg c17]
theorem put_at {a : Act} {d k : Nat} {v : Value} (hd : d < a.tmps.size) : (a.put (some d) v).tmps[k]? = if k = d then some v else a.tmps[k]? := by
  unfold Act.put
  simp only
  by_cases e : k = d
  · subst e
    simp [hd]
  · rw [if_neg e, Array.getElem?_setIfInBounds_ne (fun h => e h.symm)]
theorem eval_at {a : Act} {k : Nat} {v : Value} (h : a.tmps[k]? = some v) : a.eval (.tmp k) = v := by
  unfold Act.eval
  simp [h]
theorem oneF (c0 c1 c2 c3 c4 c5 c6 : FuncId) : (shp c0 c1 c2 c3 c4 c5 c6).all (·.oneCell') = true := by simp [shp, fnV, Value.oneCell']
theorem sh_step {w0 : World} {p : Nat} {Q : Exit → Act → World → Prop} {c0 c1 c2 c3 c4 c5 c6 : FuncId} (hp : p < w0.heap.size) (l : Array Bool) (a : Act) (w : World) (i : Nat) (o : Oper)
    (h : ShInv w0 p (shp c0 c1 c2 c3 c4 c5 c6) l a w) (ho : (opsOf sh2)[i]? = some o) (hf : l.getD i true = false) (hall : ∀ e ∈ o.after, Region.binds .any e = true → l.getD e.on false = true) :
    wpOp Tryz.prog (opsOf sh2) Q i (ShInv w0 p (shp c0 c1 c2 c3 c4 c5 c6) (l.setIfInBounds i true)) a w := by
  obtain ⟨hg, hk⟩ := okB_kind (sh2_at ho)
  have hlt : i < l.size := by
    have := (Array.getElem?_eq_some_iff.1 ho).1
    rw [sh2_size] at this
    rw [h.size]
    exact this
  have hff : l.getD i false = false := by simpa [hlt] using hf
  obtain ⟨g, m1, m2, m3⟩ := h.mem
  have hL := fun n => getD_set l i n hlt
  refine wpOp_step ho fun K' hK => ?_
  rw [if_pos (by unfold Region.wanted; rw [hg])]
  rcases hk with ⟨hi, hop, hd⟩ | ⟨j, hj, rfl, hop, hd⟩ | ⟨j, hj, rfl, hop, hd, ⟨e1, he1, he2, he3⟩, e4, he4, he5, he6⟩
  · unfold Oper.wp
    rw [ex_load hop (eval_at (m1 1 (by omega))) h.src, Oper.upon_value, hd]
    refine hK _ _ ⟨by simpa using h.size, by simpa [Act.put] using h.len, by simpa [Act.put] using h.defs, h.src, h.fr, fun j hj hl => ?_, g, fun k hk => ?_, fun j hj hl => ?_, fun j k hj hk h1 h2 => ?_⟩
    · rw [hL, show (14 + j == i) = false from beq_eq_false_iff_ne.2 (by omega), Bool.false_or] at hl
      rw [hL, h.dep j hj hl, Bool.or_true]
    · rw [put_at (by rw [h.len]; omega)]
      by_cases e : k = 10 + i
      · rw [if_pos e]
        unfold shSlot
        rw [if_neg (by omega), if_neg (by omega), if_neg (by omega), if_neg (by omega), if_pos (by omega)]
        simp only [hL]
        rw [show k - 10 = i by omega]
        simp [shp]
      · rw [if_neg e, m1 k hk]
        congr 1
        refine (slot_other (fun n hn hn2 => ?_) (fun _ _ => rfl)).symm
        show (l.setIfInBounds i true).getD n false = _
        rw [hL]
        have : (n == i) = false := beq_eq_false_iff_ne.2 (by omega)
        rw [this]
        rfl
    · rw [hL] at hl
      have : (7 + j == i) = false := beq_eq_false_iff_ne.2 (by omega)
      rw [this, Bool.false_or] at hl
      obtain ⟨r1, r2⟩ := m2 j hj hl
      rw [hL, show (14 + j == i) = false from beq_eq_false_iff_ne.2 (by omega), Bool.false_or]
      exact ⟨r1, r2⟩
    · rw [hL, show (7 + j == i) = false from beq_eq_false_iff_ne.2 (by omega), Bool.false_or] at h1
      rw [hL, show (7 + k == i) = false from beq_eq_false_iff_ne.2 (by omega), Bool.false_or] at h2
      exact m3 j k hj hk h1 h2
  · unfold Oper.wp
    rw [ex_alloc hop, Oper.upon_value, hd]
    have h14 : l.getD (14 + j) false = false := by
      cases hq : l.getD (14 + j) false with
      | false => rfl
      | true => rw [h.dep j hj hq] at hff; cases hff
    have hsz := h.fr.size
    refine hK _ _ ⟨by simpa using h.size, by simpa [Act.put] using h.len, by simpa [Act.put] using h.defs, h.src.alloc _, h.fr.alloc _, fun k hk hl => ?_, fun k => if k = j then w.heap.size else g k, fun k hk => ?_, fun k hk hl => ?_, fun k n hk hn h1 h2 he => ?_⟩
    · rw [hL, show (14 + k == 7 + j) = false from beq_eq_false_iff_ne.2 (by omega), Bool.false_or] at hl
      rw [hL, h.dep k hk hl]
      simp
    · rw [put_at (by rw [h.len]; omega)]
      by_cases e : k = j + 2
      · rw [if_pos e]
        unfold shSlot
        rw [if_neg (by omega), if_neg (by omega), if_pos (by omega)]
        simp only [hL]
        rw [show k + 5 = 7 + j by omega]
        simp [show k - 2 = j by omega]
      · rw [if_neg e, m1 k hk]
        congr 1
        refine (slot_other (fun n hn hn2 => ?_) (fun n hn => ?_)).symm
        · show (l.setIfInBounds (7 + j) true).getD n false = _
          rw [hL]
          have : (n == 7 + j) = false := beq_eq_false_iff_ne.2 (by omega)
          rw [this]
          rfl
        · show (if n = j then w.heap.size else g n) = g n
          rw [if_neg (by omega)]
    · rw [hL, show (14 + k == 7 + j) = false from beq_eq_false_iff_ne.2 (by omega), Bool.false_or]
      show w0.heap.size ≤ (if k = j then w.heap.size else g k) ∧ Blk _ (if k = j then w.heap.size else g k) _ _
      by_cases e : k = j
      · subst e
        rw [if_pos rfl, h14]
        exact ⟨hsz, Blk.new w _ _⟩
      · rw [if_neg e]
        rw [hL, show (7 + k == 7 + j) = false from beq_eq_false_iff_ne.2 (by omega), Bool.false_or] at hl
        obtain ⟨r1, r2⟩ := m2 k hk hl
        exact ⟨r1, r2.alloc _⟩
    · have ho : ∀ k, k < 7 → k ≠ j → (l.setIfInBounds (7 + j) true).getD (7 + k) false = true → g k < w.heap.size ∧ l.getD (7 + k) false = true := fun k hk hne hl => by
        rw [hL, show (7 + k == 7 + j) = false from beq_eq_false_iff_ne.2 (by omega), Bool.false_or] at hl
        exact ⟨(m2 k hk hl).2.lt, hl⟩
      simp only at he
      by_cases e1 : k = j
      · by_cases e2 : n = j
        · omega
        · rw [if_pos e1, if_neg e2] at he
          have := (ho n hn e2 h2).1
          omega
      · by_cases e2 : n = j
        · rw [if_neg e1, if_pos e2] at he
          have := (ho k hk e1 h1).1
          omega
        · rw [if_neg e1, if_neg e2] at he
          exact m3 k n hk hn (ho k hk e1 h1).2 (ho n hn e2 h2).2 he
  · have l7 : l.getD (7 + j) false = true := by rw [← he2]; exact hall e1 he1 he3
    have l0 : l.getD j false = true := by rw [← he5]; exact hall e4 he4 he6
    obtain ⟨r1, r2⟩ := m2 j hj l7
    rw [hff] at r2
    have x1 : a.eval (.tmp (j + 2)) = .pointer (some ⟨g j, 0, none⟩) := by
      refine eval_at ((m1 (j + 2) (by omega)).trans ?_)
      unfold shSlot
      rw [if_neg (by omega), if_neg (by omega), if_pos (by omega), show j + 2 + 5 = 7 + j by omega]
      simp [l7, show j + 2 - 2 = j by omega]
    have x2 : a.eval (.tmp (10 + j)) = .agg (shp c0 c1 c2 c3 c4 c5 c6) := by
      refine eval_at ((m1 (10 + j) (by omega)).trans ?_)
      unfold shSlot
      rw [if_neg (by omega), if_neg (by omega), if_neg (by omega), if_neg (by omega), if_pos (by omega), show 10 + j - 10 = j by omega]
      simp [l0]
    refine wp_store_row 143 _ _ hop (g j) (shp c0 c1 c2 c3 c4 c5 c6) x1 x2 143 zs7 r2 (by kernel_rfl) rfl (oneF _ _ _ _ _ _ _) ?_
    have hpg : p ≠ g j := by omega
    have hfr : Fr (At1 (g j)) w (w.setRow (g j) (shp c0 c1 c2 c3 c4 c5 c6)) := Fr.setRow (S := At1 (g j)) (Fr.refl _ w) (fun _ => rfl) _
    rw [hd]
    refine hK _ _ ⟨by simpa using h.size, h.len, h.defs, h.src.fr hfr hpg, h.fr.setRow (fun hlt => by omega) _, fun k hk hl => ?_, g, fun k hk => ?_, fun k hk hl => ?_, fun k n hk hn h1 h2 he => ?_⟩
    · rw [hL, show (7 + k == 14 + j) = false from beq_eq_false_iff_ne.2 (by omega), Bool.false_or]
      by_cases e : k = j
      · subst e; exact l7
      · rw [hL, show (14 + k == 14 + j) = false from beq_eq_false_iff_ne.2 (by omega), Bool.false_or] at hl
        exact h.dep k hk hl
    · show a.tmps[k]? = _
      rw [m1 k hk]
      congr 1
      refine (slot_other (fun n hn hn2 => ?_) (fun _ _ => rfl)).symm
      show (l.setIfInBounds (14 + j) true).getD n false = _
      rw [hL]
      have : (n == 14 + j) = false := beq_eq_false_iff_ne.2 (by omega)
      rw [this]
      rfl
    · rw [hL, show (7 + k == 14 + j) = false from beq_eq_false_iff_ne.2 (by omega), Bool.false_or] at hl
      obtain ⟨s1, s2⟩ := m2 k hk hl
      refine ⟨s1, ?_⟩
      by_cases e : k = j
      · subst e
        rw [hL, show (14 + k == 14 + k) = true from beq_self_eq_true _, Bool.true_or, if_pos rfl]
        exact setRow_heap w (g k) _ _ _ _ r2
      · rw [hL, show (14 + k == 14 + j) = false from beq_eq_false_iff_ne.2 (by omega), Bool.false_or]
        exact s2.fr hfr (fun e2 => e (m3 k j hk hj hl l7 e2))
    · rw [hL, show (7 + k == 14 + j) = false from beq_eq_false_iff_ne.2 (by omega), Bool.false_or] at h1
      rw [hL, show (7 + n == 14 + j) = false from beq_eq_false_iff_ne.2 (by omega), Bool.false_or] at h2
      exact m3 k n hk hn h1 h2 he

def shFrame (p : Nat) (E : Array Value) (g : Nat → Nat) : Array Value :=
  #[.map none, .pointer (some ⟨p, 0, none⟩), .pointer (some ⟨g 0, 0, none⟩), .pointer (some ⟨g 1, 0, none⟩), .pointer (some ⟨g 2, 0, none⟩), .pointer (some ⟨g 3, 0, none⟩), .pointer (some ⟨g 4, 0, none⟩), .pointer (some ⟨g 5, 0, none⟩), .pointer (some ⟨g 6, 0, none⟩), .agg E,
    .agg E, .agg E, .agg E, .agg E, .agg E, .agg E, .agg E, undef, undef, undef, undef, undef, undef, undef, undef, undef, undef, undef, undef, undef, undef, undef, undef, undef, undef, undef, undef, undef, undef, undef, undef, undef]
theorem sh_region {w : World} {p : Nat} {Q : Exit → Act → World → Prop} {c0 c1 c2 c3 c4 c5 c6 : FuncId} (hb : Blk w p 143 (shp c0 c1 c2 c3 c4 c5 c6))
    (hQ : ∀ (g : Nat → Nat) w', (∀ j, j < 7 → w.heap.size ≤ g j ∧ Blk w' (g j) 143 (shp c0 c1 c2 c3 c4 c5 c6)) → (∀ j k, j < 7 → k < 7 → g j = g k → j = k) → Fr No w w' → Q .normal ⟨shFrame p (shp c0 c1 c2 c3 c4 c5 c6) g, []⟩ w') :
    Code.wp Tryz.prog sh2 Q ⟨#[.map none, .pointer (some ⟨p, 0, none⟩), undef, undef, undef, undef, undef, undef, undef, .agg (shp c0 c1 c2 c3 c4 c5 c6),
      undef, undef, undef, undef, undef, undef, undef, undef, undef, undef, undef, undef, undef, undef, undef, undef, undef, undef, undef, undef, undef, undef, undef, undef, undef, undef, undef, undef, undef, undef, undef, undef], []⟩ w := by
  have e : sh2 = .region 2 (opsOf sh2) true := by kernel_rfl
  rw [e]
  refine wp_region_inv (by kernel_rfl) (ShInv w p (shp c0 c1 c2 c3 c4 c5 c6)) (fun l a w' h => by rw [h.size, sh2_size]) (fun i o ho => okB_back (sh2_at ho)) (fun l a w' i o h ho hf hall => sh_step hb.lt l a w' i o h ho hf hall) (fun l a w' h hl => ?_) ?_
  · rw [sh2_size] at hl
    obtain ⟨g, m1, m2, m3⟩ := h.mem
    have ha : a = ⟨shFrame p (shp c0 c1 c2 c3 c4 c5 c6) g, []⟩ := by
      obtain ⟨ts, ds⟩ := a
      have hd := h.defs
      have hlen := h.len
      simp only at hd hlen m1
      subst hd
      congr 1
      refine Array.ext (by rw [hlen]; rfl) fun k hk hk2 => ?_
      have h1 := m1 k (by omega)
      rw [Array.getElem?_eq_getElem hk] at h1
      injection h1 with h1
      rw [h1]
      have hk3 : k < 42 := by omega
      clear h1 hk m1 m2 m3 hQ h e hb
      match k, hk3 with
      | 0, _ | 1, _ | 9, _ | 17, _ | 18, _ | 19, _ | 20, _ | 21, _ | 22, _ | 23, _ | 24, _ | 25, _ | 26, _ | 27, _ | 28, _ | 29, _ | 30, _ | 31, _ | 32, _ | 33, _ | 34, _ | 35, _ | 36, _ | 37, _ | 38, _ | 39, _ | 40, _ | 41, _ => rfl
      | 2, _ => simp [shSlot, shFrame, hl 7 (by omega)]
      | 3, _ => simp [shSlot, shFrame, hl 8 (by omega)]
      | 4, _ => simp [shSlot, shFrame, hl 9 (by omega)]
      | 5, _ => simp [shSlot, shFrame, hl 10 (by omega)]
      | 6, _ => simp [shSlot, shFrame, hl 11 (by omega)]
      | 7, _ => simp [shSlot, shFrame, hl 12 (by omega)]
      | 8, _ => simp [shSlot, shFrame, hl 13 (by omega)]
      | 10, _ => simp [shSlot, shFrame, hl 0 (by omega)]
      | 11, _ => simp [shSlot, shFrame, hl 1 (by omega)]
      | 12, _ => simp [shSlot, shFrame, hl 2 (by omega)]
      | 13, _ => simp [shSlot, shFrame, hl 3 (by omega)]
      | 14, _ => simp [shSlot, shFrame, hl 4 (by omega)]
      | 15, _ => simp [shSlot, shFrame, hl 5 (by omega)]
      | 16, _ => simp [shSlot, shFrame, hl 6 (by omega)]
      | n + 42, h => exact absurd h (by omega)
    rw [ha]
    refine hQ g w' (fun j hj => ?_) (fun j k hj hk => m3 j k hj hk (hl _ (by omega)) (hl _ (by omega))) h.fr
    have h2 := m2 j hj (hl _ (by omega))
    rw [hl (14 + j) (by omega)] at h2
    exact h2
  · rw [sh2_size]
    have hl0 : ∀ n, (Array.replicate 21 false).getD n false = false := fun n => by
      rcases Nat.lt_or_ge n 21 with h | h
      · simp [h]
      · simp [h]
    refine ⟨by simp, rfl, rfl, hb.drew, (Fr.refl No w).drew, fun j hj hl => (by rw [hl0] at hl; cases hl), fun _ => 0, fun k hk => ?_, fun j hj hl => (by rw [hl0] at hl; cases hl), fun j k hj hk hl => (by rw [hl0] at hl; cases hl)⟩
    unfold shSlot
    simp only [hl0]
    match k, hk with
    | 0, _ | 1, _ | 2, _ | 3, _ | 4, _ | 5, _ | 6, _ | 7, _ | 8, _ | 9, _ | 10, _ | 11, _ | 12, _ | 13, _ | 14, _ | 15, _ | 16, _ | 17, _ | 18, _ | 19, _ | 20, _ | 21, _ | 22, _ | 23, _ | 24, _ | 25, _ | 26, _ | 27, _ | 28, _ | 29, _ | 30, _ | 31, _ | 32, _ | 33, _ | 34, _ | 35, _ | 36, _ | 37, _ | 38, _ | 39, _ | 40, _ | 41, _ => rfl
    | n + 42, h => exact absurd h (by omega)
end Go.Proofs.YtjbeaoabhhaiiaaGreat

namespace Go.Proofs.YtjbeaoabhhaiiaaGreat
open Go.RowKit Go.My Go.Maps
set_option linter.unusedSimpArgs false
set_option linter.unusedVariables false

/-- the functions that look at the fields of a kind's orders -/
def shapeF (k : Int) : Option Value :=
  if k = 7 then some (.agg (shp 29 89 90 91 92 93 94))
  else if k = 6 then some (.agg (shp 88 89 90 91 97 93 94))
  else if k = 5 then some (.agg (shp 29 89 90 91 92 101 94))
  else if k = 4 then some (.agg (shp 29 100 99 91 97 101 94))
  else if k = 3 then some (.agg (shp 29 89 99 91 92 93 94))
  else if k = 2 then some (.agg (shp 88 89 90 96 97 93 98))
  else if k = 1 then some (.agg (shp 29 89 95 91 92 93 94))
  else none
/-- seven structs of their own -/
def S7 (w : World) (g : Nat → Nat) (F : Nat → Array Value) : Prop := ∀ j, j < 7 → Blk w (g j) 143 (F j)
def Inj7 (g : Nat → Nat) : Prop := ∀ j k, j < 7 → k < 7 → g j = g k → j = k
theorem S7.set_ {w : World} {g : Nat → Nat} {F : Nat → Array Value} (h : S7 w g F) (hi : Inj7 g) (i k : Nat) (hk : i < 7) (v : Value) : S7 (w.setCell ⟨g i, k, none⟩ v) g (fun j => if j = i then (F j).setIfInBounds k v else F j) := fun j hj => by
  by_cases e : j = i
  · subst e
    simp only [if_pos]
    exact (h j hj).set_ k v
  · simp only [if_neg e]
    exact (h j hj).far (fun e2 => e (hi j i hj hk e2)) v
theorem S7.fr {w w' : World} {g : Nat → Nat} {F : Nat → Array Value} {S : Nat → Prop} (h : S7 w g F) (hf : Fr S w w') (hn : ∀ j, j < 7 → ¬ S (g j)) : S7 w' g F := fun j hj => (h j hj).fr hf (hn j hj)
theorem S7.congr {w : World} {g : Nat → Nat} {F G : Nat → Array Value} (h : S7 w g F) (e : ∀ j, j < 7 → F j = G j) : S7 w g G := fun j hj => by rw [← e j hj]; exact h j hj
def shE : Array Value := shp 88 89 90 91 92 93 94
def shFin (j : Nat) : Array Value :=
  if j = 0 then shp 29 89 95 91 92 93 94
  else if j = 1 then shp 88 89 90 96 97 93 98
  else if j = 2 then shp 29 89 99 91 92 93 94
  else if j = 3 then shp 29 100 99 91 97 101 94
  else if j = 4 then shp 29 89 90 91 92 101 94
  else if j = 5 then shp 88 89 90 91 97 93 94
  else shp 29 89 90 91 92 93 94
set_option maxRecDepth 100000 in
set_option maxHeartbeats 4000000 in
theorem shapes_any (w : World) : Calls Tryz.prog 63 #[] w fun e w' => ∃ m, e = .returned (.map (some m)) ∧ Tab Tryz.prog 3 w' m 7 shapeF ∧ Fr No w w' := by
  have hb := Blk.new w 143 shE
  have hfw : Fr No w (w.alloc (.cells shE 143)) := (Fr.refl _ _).alloc _
  go_enter Tryz.func63, Tryz.ntmps63
  go_wp2
  refine sh_region (c0 := 88) (c1 := 89) (c2 := 90) (c3 := 91) (c4 := 92) (c5 := 93) (c6 := 94) hb fun g w2 hS hI hf2 => ?_
  have HI : Hid (Inj7 g) := hI
  have HS : Hid (S7 w2 g (fun _ => shE)) := fun j hj => (hS j hj).2
  have HG : Hid (∀ j, j < 7 → w.heap.size ≤ g j) := fun j hj => by
    have := (hS j hj).1
    rw [World.size_alloc] at this
    omega
  have HF : Hid (Fr No w w2) := hfw.trans hf2
  clear hb hfw hS hI hf2
  unfold shFrame
  have hx := HS.out 0 (by omega)
  have x0 := hx.cell 0
  have f0 := hx.frozen 0
  have x2 := hx.cell 2
  have f2 := hx.frozen 2
  simp only [shE, shp, fnV, if_true, if_false, List.getElem?_toArray, List.getElem?_cons_zero, List.getElem?_cons_succ, Array.getElem?_setIfInBounds, Nat.reduceEqDiff] at x0 x2
  go_upto_region 4 with (fail)
  have HS' := Lib.hid ((HS.out.set_ HI.out 0 0 (by omega) (.func (.func 29) #[] #[])).set_ HI.out 0 2 (by omega) (.func (.func 95) #[] #[]))
  have HF' : Hid (Fr No w _) := ((HF.out.setCell (p := ⟨g 0, 0, none⟩) (fun h => absurd h (by have := HG.out 0 (by omega); simp only; omega)) (.func (.func 29) #[] #[])).setCell (p := ⟨g 0, 2, none⟩) (fun h => absurd h (by have := HG.out 0 (by omega); simp only; omega)) (.func (.func 95) #[] #[]))
  clear hx x0 f0 x2 f2 HS HF
  have HS := HS'
  have HF := HF'
  clear HS' HF'
  generalize ((w2.setCell ⟨g 0, 0, none⟩ (.func (.func 29) #[] #[])).setCell ⟨g 0, 2, none⟩ (.func (.func 95) #[] #[])) = w3 at *
  have hx := HS.out 1 (by omega)
  have x3 := hx.cell 3
  have f3 := hx.frozen 3
  have x4 := hx.cell 4
  have f4 := hx.frozen 4
  have x6 := hx.cell 6
  have f6 := hx.frozen 6
  simp only [shE, shp, fnV, if_true, if_false, List.getElem?_toArray, List.getElem?_cons_zero, List.getElem?_cons_succ, Array.getElem?_setIfInBounds, Nat.reduceEqDiff] at x3 x4 x6
  go_upto_region 5 with (fail)
  have HS' := Lib.hid (((HS.out.set_ HI.out 1 3 (by omega) (.func (.func 96) #[] #[])).set_ HI.out 1 4 (by omega) (.func (.func 97) #[] #[])).set_ HI.out 1 6 (by omega) (.func (.func 98) #[] #[]))
  have HF' : Hid (Fr No w _) := (((HF.out.setCell (p := ⟨g 1, 3, none⟩) (fun h => absurd h (by have := HG.out 1 (by omega); simp only; omega)) (.func (.func 96) #[] #[])).setCell (p := ⟨g 1, 4, none⟩) (fun h => absurd h (by have := HG.out 1 (by omega); simp only; omega)) (.func (.func 97) #[] #[])).setCell (p := ⟨g 1, 6, none⟩) (fun h => absurd h (by have := HG.out 1 (by omega); simp only; omega)) (.func (.func 98) #[] #[]))
  clear hx x3 f3 x4 f4 x6 f6 HS HF
  have HS := HS'
  have HF := HF'
  clear HS' HF'
  generalize (((w3.setCell ⟨g 1, 3, none⟩ (.func (.func 96) #[] #[])).setCell ⟨g 1, 4, none⟩ (.func (.func 97) #[] #[])).setCell ⟨g 1, 6, none⟩ (.func (.func 98) #[] #[])) = w4 at *
  have hx := HS.out 2 (by omega)
  have x0 := hx.cell 0
  have f0 := hx.frozen 0
  have x2 := hx.cell 2
  have f2 := hx.frozen 2
  simp only [shE, shp, fnV, if_true, if_false, List.getElem?_toArray, List.getElem?_cons_zero, List.getElem?_cons_succ, Array.getElem?_setIfInBounds, Nat.reduceEqDiff] at x0 x2
  go_upto_region 6 with (fail)
  have HS' := Lib.hid ((HS.out.set_ HI.out 2 0 (by omega) (.func (.func 29) #[] #[])).set_ HI.out 2 2 (by omega) (.func (.func 99) #[] #[]))
  have HF' : Hid (Fr No w _) := ((HF.out.setCell (p := ⟨g 2, 0, none⟩) (fun h => absurd h (by have := HG.out 2 (by omega); simp only; omega)) (.func (.func 29) #[] #[])).setCell (p := ⟨g 2, 2, none⟩) (fun h => absurd h (by have := HG.out 2 (by omega); simp only; omega)) (.func (.func 99) #[] #[]))
  clear hx x0 f0 x2 f2 HS HF
  have HS := HS'
  have HF := HF'
  clear HS' HF'
  generalize ((w4.setCell ⟨g 2, 0, none⟩ (.func (.func 29) #[] #[])).setCell ⟨g 2, 2, none⟩ (.func (.func 99) #[] #[])) = w5 at *
  have hx := HS.out 3 (by omega)
  have x0 := hx.cell 0
  have f0 := hx.frozen 0
  have x1 := hx.cell 1
  have f1 := hx.frozen 1
  have x2 := hx.cell 2
  have f2 := hx.frozen 2
  simp only [shE, shp, fnV, if_true, if_false, List.getElem?_toArray, List.getElem?_cons_zero, List.getElem?_cons_succ, Array.getElem?_setIfInBounds, Nat.reduceEqDiff] at x0 x1 x2
  go_upto_region 7 with (fail)
  have HS' := Lib.hid (((HS.out.set_ HI.out 3 0 (by omega) (.func (.func 29) #[] #[])).set_ HI.out 3 1 (by omega) (.func (.func 100) #[] #[])).set_ HI.out 3 2 (by omega) (.func (.func 99) #[] #[]))
  have HF' : Hid (Fr No w _) := (((HF.out.setCell (p := ⟨g 3, 0, none⟩) (fun h => absurd h (by have := HG.out 3 (by omega); simp only; omega)) (.func (.func 29) #[] #[])).setCell (p := ⟨g 3, 1, none⟩) (fun h => absurd h (by have := HG.out 3 (by omega); simp only; omega)) (.func (.func 100) #[] #[])).setCell (p := ⟨g 3, 2, none⟩) (fun h => absurd h (by have := HG.out 3 (by omega); simp only; omega)) (.func (.func 99) #[] #[]))
  clear hx x0 f0 x1 f1 x2 f2 HS HF
  have HS := HS'
  have HF := HF'
  clear HS' HF'
  generalize (((w5.setCell ⟨g 3, 0, none⟩ (.func (.func 29) #[] #[])).setCell ⟨g 3, 1, none⟩ (.func (.func 100) #[] #[])).setCell ⟨g 3, 2, none⟩ (.func (.func 99) #[] #[])) = w6 at *
  have hx := HS.out 3 (by omega)
  have x5 := hx.cell 5
  have f5 := hx.frozen 5
  have x4 := hx.cell 4
  have f4 := hx.frozen 4
  simp only [shE, shp, fnV, if_true, if_false, List.getElem?_toArray, List.getElem?_cons_zero, List.getElem?_cons_succ, Array.getElem?_setIfInBounds, Nat.reduceEqDiff] at x5 x4
  go_upto_region 8 with (fail)
  have HS' := Lib.hid ((HS.out.set_ HI.out 3 5 (by omega) (.func (.func 101) #[] #[])).set_ HI.out 3 4 (by omega) (.func (.func 97) #[] #[]))
  have HF' : Hid (Fr No w _) := ((HF.out.setCell (p := ⟨g 3, 5, none⟩) (fun h => absurd h (by have := HG.out 3 (by omega); simp only; omega)) (.func (.func 101) #[] #[])).setCell (p := ⟨g 3, 4, none⟩) (fun h => absurd h (by have := HG.out 3 (by omega); simp only; omega)) (.func (.func 97) #[] #[]))
  clear hx x5 f5 x4 f4 HS HF
  have HS := HS'
  have HF := HF'
  clear HS' HF'
  generalize ((w6.setCell ⟨g 3, 5, none⟩ (.func (.func 101) #[] #[])).setCell ⟨g 3, 4, none⟩ (.func (.func 97) #[] #[])) = w7 at *
  have hx := HS.out 4 (by omega)
  have x0 := hx.cell 0
  have f0 := hx.frozen 0
  have x5 := hx.cell 5
  have f5 := hx.frozen 5
  simp only [shE, shp, fnV, if_true, if_false, List.getElem?_toArray, List.getElem?_cons_zero, List.getElem?_cons_succ, Array.getElem?_setIfInBounds, Nat.reduceEqDiff] at x0 x5
  go_upto_region 9 with (fail)
  have HS' := Lib.hid ((HS.out.set_ HI.out 4 0 (by omega) (.func (.func 29) #[] #[])).set_ HI.out 4 5 (by omega) (.func (.func 101) #[] #[]))
  have HF' : Hid (Fr No w _) := ((HF.out.setCell (p := ⟨g 4, 0, none⟩) (fun h => absurd h (by have := HG.out 4 (by omega); simp only; omega)) (.func (.func 29) #[] #[])).setCell (p := ⟨g 4, 5, none⟩) (fun h => absurd h (by have := HG.out 4 (by omega); simp only; omega)) (.func (.func 101) #[] #[]))
  clear hx x0 f0 x5 f5 HS HF
  have HS := HS'
  have HF := HF'
  clear HS' HF'
  generalize ((w7.setCell ⟨g 4, 0, none⟩ (.func (.func 29) #[] #[])).setCell ⟨g 4, 5, none⟩ (.func (.func 101) #[] #[])) = w8 at *
  have hx := HS.out 5 (by omega)
  have x4 := hx.cell 4
  have f4 := hx.frozen 4
  simp only [shE, shp, fnV, if_true, if_false, List.getElem?_toArray, List.getElem?_cons_zero, List.getElem?_cons_succ, Array.getElem?_setIfInBounds, Nat.reduceEqDiff] at x4
  go_upto_region 10 with (fail)
  have HS' := Lib.hid (HS.out.set_ HI.out 5 4 (by omega) (.func (.func 97) #[] #[]))
  have HF' : Hid (Fr No w _) := (HF.out.setCell (p := ⟨g 5, 4, none⟩) (fun h => absurd h (by have := HG.out 5 (by omega); simp only; omega)) (.func (.func 97) #[] #[]))
  clear hx x4 f4 HS HF
  have HS := HS'
  have HF := HF'
  clear HS' HF'
  generalize (w8.setCell ⟨g 5, 4, none⟩ (.func (.func 97) #[] #[])) = w9 at *
  have hx := HS.out 6 (by omega)
  have x0 := hx.cell 0
  have f0 := hx.frozen 0
  simp only [shE, shp, fnV, if_true, if_false, List.getElem?_toArray, List.getElem?_cons_zero, List.getElem?_cons_succ, Array.getElem?_setIfInBounds, Nat.reduceEqDiff] at x0
  go_upto_region 11 with (fail)
  have HS' := Lib.hid (HS.out.set_ HI.out 6 0 (by omega) (.func (.func 29) #[] #[]))
  have HF' : Hid (Fr No w _) := (HF.out.setCell (p := ⟨g 6, 0, none⟩) (fun h => absurd h (by have := HG.out 6 (by omega); simp only; omega)) (.func (.func 29) #[] #[]))
  clear hx x0 f0 HS HF
  have HS := HS'
  have HF := HF'
  clear HS' HF'
  generalize (w9.setCell ⟨g 6, 0, none⟩ (.func (.func 29) #[] #[])) = w10 at *
  have HS1 := Lib.hid (HS.out.congr (G := shFin) fun j hj => by match j, hj with
    | 0, _ | 1, _ | 2, _ | 3, _ | 4, _ | 5, _ | 6, _ => rfl)
  clear HS
  have HS := HS1
  clear HS1
  have HS0 := HS
  have HT : Hid (Tab Tryz.prog 3 (w10.alloc (.map #[] 0)) w10.heap.size 0 (fun _ => none)) := Tab.made w10
  have HM := Lib.hid (HF.out.alloc (.map #[] 0))
  have HS1 := Lib.hid (HS.out.fr ((Fr.refl No w10).alloc (.map #[] 0)) (fun _ _ h => h))
  clear HS
  have HS := HS1
  clear HS1
  have hmk := @run_makeMap Tryz.prog
  have HN : Hid (∀ j, j < 7 → g j ≠ w10.heap.size) := fun j hj => by
    have := (HS.out j hj).lt
    have h2 : g j < w10.heap.size := (HS0.out j hj).lt
    omega
  have HZ : Hid (w.heap.size ≤ w10.heap.size) := HF.out.size
  clear HS0
  clear HF
  have hx := HS.out 0 (by omega)
  have x00 := hx.cell 0
  have x01 := hx.cell 1
  have x02 := hx.cell 2
  have x03 := hx.cell 3
  have x04 := hx.cell 4
  have x05 := hx.cell 5
  have x06 := hx.cell 6
  simp only [shFin, shp, fnV, if_true, if_false, List.getElem?_toArray, List.getElem?_cons_zero, List.getElem?_cons_succ, Nat.reduceEqDiff] at x00 x01 x02 x03 x04 x05 x06
  clear hx
  obtain ⟨u0, hr0, hT0, hf0⟩ := HT.out.put Tryz.underlying3 Tryz.underlying145 (by unfold maxLen; omega) 1 (by unfold In64; omega) (.agg (shFin 0))
  simp only [shFin, shp, fnV, if_true, if_false, Nat.reduceEqDiff] at hr0
  have HT' := Lib.hid hT0
  have HS' := Lib.hid (HS.out.fr hf0 (fun j hj h => HN.out j hj h))
  have HM' : Hid (Fr No w u0) := HM.out.trans' hf0 (fun i hi hlt => by have : i = w10.heap.size := hi; have := HZ.out; omega)
  clear HT HS HM hT0 hf0
  have HT := HT'
  have HS := HS'
  have HM := HM'
  clear HT' HS' HM'
  have hx := HS.out 1 (by omega)
  have x10 := hx.cell 0
  have x11 := hx.cell 1
  have x12 := hx.cell 2
  have x13 := hx.cell 3
  have x14 := hx.cell 4
  have x15 := hx.cell 5
  have x16 := hx.cell 6
  simp only [shFin, shp, fnV, if_true, if_false, List.getElem?_toArray, List.getElem?_cons_zero, List.getElem?_cons_succ, Nat.reduceEqDiff] at x10 x11 x12 x13 x14 x15 x16
  clear hx
  obtain ⟨u1, hr1, hT1, hf1⟩ := HT.out.put Tryz.underlying3 Tryz.underlying145 (by unfold maxLen; omega) 2 (by unfold In64; omega) (.agg (shFin 1))
  simp only [shFin, shp, fnV, if_true, if_false, Nat.reduceEqDiff] at hr1
  have HT' := Lib.hid hT1
  have HS' := Lib.hid (HS.out.fr hf1 (fun j hj h => HN.out j hj h))
  have HM' : Hid (Fr No w u1) := HM.out.trans' hf1 (fun i hi hlt => by have : i = w10.heap.size := hi; have := HZ.out; omega)
  clear HT HS HM hT1 hf1
  have HT := HT'
  have HS := HS'
  have HM := HM'
  clear HT' HS' HM'
  have hx := HS.out 2 (by omega)
  have x20 := hx.cell 0
  have x21 := hx.cell 1
  have x22 := hx.cell 2
  have x23 := hx.cell 3
  have x24 := hx.cell 4
  have x25 := hx.cell 5
  have x26 := hx.cell 6
  simp only [shFin, shp, fnV, if_true, if_false, List.getElem?_toArray, List.getElem?_cons_zero, List.getElem?_cons_succ, Nat.reduceEqDiff] at x20 x21 x22 x23 x24 x25 x26
  clear hx
  obtain ⟨u2, hr2, hT2, hf2⟩ := HT.out.put Tryz.underlying3 Tryz.underlying145 (by unfold maxLen; omega) 3 (by unfold In64; omega) (.agg (shFin 2))
  simp only [shFin, shp, fnV, if_true, if_false, Nat.reduceEqDiff] at hr2
  have HT' := Lib.hid hT2
  have HS' := Lib.hid (HS.out.fr hf2 (fun j hj h => HN.out j hj h))
  have HM' : Hid (Fr No w u2) := HM.out.trans' hf2 (fun i hi hlt => by have : i = w10.heap.size := hi; have := HZ.out; omega)
  clear HT HS HM hT2 hf2
  have HT := HT'
  have HS := HS'
  have HM := HM'
  clear HT' HS' HM'
  have hx := HS.out 3 (by omega)
  have x30 := hx.cell 0
  have x31 := hx.cell 1
  have x32 := hx.cell 2
  have x33 := hx.cell 3
  have x34 := hx.cell 4
  have x35 := hx.cell 5
  have x36 := hx.cell 6
  simp only [shFin, shp, fnV, if_true, if_false, List.getElem?_toArray, List.getElem?_cons_zero, List.getElem?_cons_succ, Nat.reduceEqDiff] at x30 x31 x32 x33 x34 x35 x36
  clear hx
  obtain ⟨u3, hr3, hT3, hf3⟩ := HT.out.put Tryz.underlying3 Tryz.underlying145 (by unfold maxLen; omega) 4 (by unfold In64; omega) (.agg (shFin 3))
  simp only [shFin, shp, fnV, if_true, if_false, Nat.reduceEqDiff] at hr3
  have HT' := Lib.hid hT3
  have HS' := Lib.hid (HS.out.fr hf3 (fun j hj h => HN.out j hj h))
  have HM' : Hid (Fr No w u3) := HM.out.trans' hf3 (fun i hi hlt => by have : i = w10.heap.size := hi; have := HZ.out; omega)
  clear HT HS HM hT3 hf3
  have HT := HT'
  have HS := HS'
  have HM := HM'
  clear HT' HS' HM'
  have hx := HS.out 4 (by omega)
  have x40 := hx.cell 0
  have x41 := hx.cell 1
  have x42 := hx.cell 2
  have x43 := hx.cell 3
  have x44 := hx.cell 4
  have x45 := hx.cell 5
  have x46 := hx.cell 6
  simp only [shFin, shp, fnV, if_true, if_false, List.getElem?_toArray, List.getElem?_cons_zero, List.getElem?_cons_succ, Nat.reduceEqDiff] at x40 x41 x42 x43 x44 x45 x46
  clear hx
  obtain ⟨u4, hr4, hT4, hf4⟩ := HT.out.put Tryz.underlying3 Tryz.underlying145 (by unfold maxLen; omega) 5 (by unfold In64; omega) (.agg (shFin 4))
  simp only [shFin, shp, fnV, if_true, if_false, Nat.reduceEqDiff] at hr4
  have HT' := Lib.hid hT4
  have HS' := Lib.hid (HS.out.fr hf4 (fun j hj h => HN.out j hj h))
  have HM' : Hid (Fr No w u4) := HM.out.trans' hf4 (fun i hi hlt => by have : i = w10.heap.size := hi; have := HZ.out; omega)
  clear HT HS HM hT4 hf4
  have HT := HT'
  have HS := HS'
  have HM := HM'
  clear HT' HS' HM'
  have hx := HS.out 5 (by omega)
  have x50 := hx.cell 0
  have x51 := hx.cell 1
  have x52 := hx.cell 2
  have x53 := hx.cell 3
  have x54 := hx.cell 4
  have x55 := hx.cell 5
  have x56 := hx.cell 6
  simp only [shFin, shp, fnV, if_true, if_false, List.getElem?_toArray, List.getElem?_cons_zero, List.getElem?_cons_succ, Nat.reduceEqDiff] at x50 x51 x52 x53 x54 x55 x56
  clear hx
  obtain ⟨u5, hr5, hT5, hf5⟩ := HT.out.put Tryz.underlying3 Tryz.underlying145 (by unfold maxLen; omega) 6 (by unfold In64; omega) (.agg (shFin 5))
  simp only [shFin, shp, fnV, if_true, if_false, Nat.reduceEqDiff] at hr5
  have HT' := Lib.hid hT5
  have HS' := Lib.hid (HS.out.fr hf5 (fun j hj h => HN.out j hj h))
  have HM' : Hid (Fr No w u5) := HM.out.trans' hf5 (fun i hi hlt => by have : i = w10.heap.size := hi; have := HZ.out; omega)
  clear HT HS HM hT5 hf5
  have HT := HT'
  have HS := HS'
  have HM := HM'
  clear HT' HS' HM'
  have hx := HS.out 6 (by omega)
  have x60 := hx.cell 0
  have x61 := hx.cell 1
  have x62 := hx.cell 2
  have x63 := hx.cell 3
  have x64 := hx.cell 4
  have x65 := hx.cell 5
  have x66 := hx.cell 6
  simp only [shFin, shp, fnV, if_true, if_false, List.getElem?_toArray, List.getElem?_cons_zero, List.getElem?_cons_succ, Nat.reduceEqDiff] at x60 x61 x62 x63 x64 x65 x66
  clear hx
  obtain ⟨u6, hr6, hT6, hf6⟩ := HT.out.put Tryz.underlying3 Tryz.underlying145 (by unfold maxLen; omega) 7 (by unfold In64; omega) (.agg (shFin 6))
  simp only [shFin, shp, fnV, if_true, if_false, Nat.reduceEqDiff] at hr6
  have HT' := Lib.hid hT6
  have HS' := Lib.hid (HS.out.fr hf6 (fun j hj h => HN.out j hj h))
  have HM' : Hid (Fr No w u6) := HM.out.trans' hf6 (fun i hi hlt => by have : i = w10.heap.size := hi; have := HZ.out; omega)
  clear HT HS HM hT6 hf6
  have HT := HT'
  have HS := HS'
  have HM := HM'
  clear HT' HS' HM'
  clear HS HN HZ HI HG
  go_wp2
  go_ret
  exact ⟨_, rfl, HT.out, HM.out⟩
end Go.Proofs.YtjbeaoabhhaiiaaGreat

namespace Go.Proofs.YtjbeaoabhhaiiaaGreat
open Go.RowKit Go.My Go.Maps
set_option linter.unusedSimpArgs false
set_option linter.unusedVariables false
attribute [local go_sem ↓] Go.wp_at_zero Go.wp_at_succ

/-- answers b, and changes nothing -/
def AnsB (f : FuncId) (args : Array Value) (b : Bool) : Prop := ∀ W, Calls Tryz.prog f args W fun e w' => e = .returned (.bool b) ∧ Fr No W w'
theorem ans1 (s : ByteArray) : AnsB 88 #[.string s] s.data.toList.isEmpty := fun W => by
  go_enter Tryz.func88, Tryz.ntmps88
  go_wp2
  go_ret
  refine ⟨?_, Fr.refl _ _⟩
  rw [← ByteArray.toList_eq]
  rfl
theorem ans7 (s : ByteArray) : AnsB 94 #[.string s] s.data.toList.isEmpty := fun W => by
  go_enter Tryz.func94, Tryz.ntmps94
  go_wp2
  go_ret
  refine ⟨?_, Fr.refl _ _⟩
  rw [← ByteArray.toList_eq]
  rfl
theorem ans2 (s t : ByteArray) : AnsB 89 #[.string s, .string t] s.data.toList.isEmpty := fun W => by
  go_enter Tryz.func89, Tryz.ntmps89
  go_wp2
  go_ret
  refine ⟨?_, Fr.refl _ _⟩
  rw [← ByteArray.toList_eq]
  rfl
theorem ans3 (n : Int) : AnsB 90 #[.int .i64 n] (n == 0) := fun W => by
  go_enter Tryz.func90, Tryz.ntmps90
  go_wp2
  go_ret
  exact ⟨rfl, Fr.refl _ _⟩
theorem ans5 (n : Int) : AnsB 92 #[.int .i64 n] (n == 0) := fun W => by
  go_enter Tryz.func92, Tryz.ntmps92
  go_wp2
  go_ret
  exact ⟨rfl, Fr.refl _ _⟩
theorem ans6 (n : Int) : AnsB 93 #[.int .i64 n] (n == 0) := fun W => by
  go_enter Tryz.func93, Tryz.ntmps93
  go_wp2
  go_ret
  exact ⟨rfl, Fr.refl _ _⟩
theorem ans8 (n : Int) : AnsB 95 #[.int .i64 n] (decide (0 ≤ n)) := fun W => by
  go_enter Tryz.func95, Tryz.ntmps95
  go_wp2
  go_ret
  exact ⟨rfl, Fr.refl _ _⟩
theorem ans4 (A : Option Addr) (n c : Nat) : AnsB 91 #[.slice A n c] (n == 0) := fun W => by
  go_enter Tryz.func91, Tryz.ntmps91
  go_wp2
  go_ret
  refine ⟨?_, Fr.refl _ _⟩
  cases n <;> simp <;> omega
theorem ansSum (n : Int) : AnsB 99 #[.int .i64 n] (decide (1 ≤ n)) := fun W => by
  go_enter Tryz.func99, Tryz.ntmps99
  go_wp2
  go_ret
  exact ⟨rfl, Fr.refl _ _⟩
theorem ansPeriod (n : Int) : AnsB 97 #[.int .i64 n] (decide (1 ≤ n) && decide (n ≤ 1000)) := fun W => by
  by_cases h : 1 ≤ n
  · go_enter Tryz.func97, Tryz.ntmps97
    go_wp2
    go_ret
    exact ⟨by simp [h], Fr.refl _ _⟩
  · go_enter Tryz.func97, Tryz.ntmps97
    go_wp2
    go_ret
    exact ⟨by rw [show decide (1 ≤ n) = false from decide_eq_false (by omega)]; rfl, Fr.refl _ _⟩
theorem ansHold (n : Int) : AnsB 101 #[.int .i64 n] (decide (1 ≤ n) && decide (n ≤ 9999)) := fun W => by
  by_cases h : 1 ≤ n
  · go_enter Tryz.func101, Tryz.ntmps101
    go_wp2
    go_ret
    exact ⟨by simp [h], Fr.refl _ _⟩
  · go_enter Tryz.func101, Tryz.ntmps101
    go_wp2
    go_ret
    exact ⟨by rw [show decide (1 ≤ n) = false from decide_eq_false (by omega)]; rfl, Fr.refl _ _⟩
theorem ansNote (s : ByteArray) : AnsB 98 #[.string s] (decide (s.data.toList.length ≤ 20)) := fun W => by
  go_enter Tryz.func98, Tryz.ntmps98
  go_wp2
  go_ret
  refine ⟨?_, Fr.refl _ _⟩
  obtain ⟨⟨l⟩⟩ := s
  simp [ByteArray.size]
  omega
theorem ansName (s : ByteArray) (hs : s.size ≤ maxLen) : AnsB 29 #[.string s] (nameB s.data.toList) := fun W => (name_any s W hs).mono fun e w' h => ⟨h.1, Fr.of_below h.2 _⟩
theorem ansPeer (s t : ByteArray) (hs : s.size ≤ maxLen) : AnsB 100 #[.string s, .string t] (nameB s.data.toList && !(s.data.toList == t.data.toList)) := fun W => by
  have HN := Lib.hid (ansName s hs)
  cases hn : nameB s.data.toList
  · rw [hn] at HN
    clear hn
    go_enter Tryz.func100, Tryz.ntmps100
    go_wp2_with fail
    refine (HN.out _).mono ?_
    rintro e w1 ⟨rfl, hf⟩
    go_wp2
    go_ret
    exact ⟨rfl, hf⟩
  · rw [hn] at HN
    clear hn
    go_enter Tryz.func100, Tryz.ntmps100
    go_wp2_with fail
    refine (HN.out _).mono ?_
    rintro e w1 ⟨rfl, hf⟩
    go_wp2
    go_ret
    refine ⟨?_, hf⟩
    rw [← ByteArray.toList_eq, ← ByteArray.toList_eq]
    rfl
/-- may an Id be? -/
def idB (c s : Int) : Bool := decide (0 ≤ c) && (decide (c ≤ 9) && (decide (1 ≤ s) && decide (s ≤ 999)))
theorem ansId (c s : Int) : AnsB 64 #[.agg #[.int .i64 c, .int .i64 s]] (idB c s) := fun W => by
  have hf : Fr No W (W.alloc (.cells #[.int .i64 c, .int .i64 s] 32)) := (Fr.refl _ _).alloc _
  by_cases h1 : 0 ≤ c
  · by_cases h2 : c ≤ 9
    · by_cases h3 : 1 ≤ s
      · go_enter Tryz.func64, Tryz.ntmps64
        go_wp2
        go_ret
        exact ⟨by simp [idB, h1, h2, h3], hf⟩
      · go_enter Tryz.func64, Tryz.ntmps64
        go_wp2
        go_ret
        exact ⟨by unfold idB; rw [decide_eq_true h1, decide_eq_true h2, show decide (1 ≤ s) = false from decide_eq_false (by omega)]; rfl, hf⟩
    · go_enter Tryz.func64, Tryz.ntmps64
      go_wp2
      go_ret
      exact ⟨by unfold idB; rw [decide_eq_true h1, show decide (c ≤ 9) = false from decide_eq_false (by omega)]; rfl, hf⟩
  · go_enter Tryz.func64, Tryz.ntmps64
    go_wp2
    go_ret
    exact ⟨by unfold idB; rw [show decide (0 ≤ c) = false from decide_eq_false (by omega)]; rfl, hf⟩
end Go.Proofs.YtjbeaoabhhaiiaaGreat

namespace Go.Proofs.YtjbeaoabhhaiiaaGreat
open Go.RowKit Go.My Go.Maps
set_option linter.unusedSimpArgs false
set_option linter.unusedVariables false
attribute [local go_sem ↓] Go.wp_at_zero Go.wp_at_succ

/-- the first leg for which q holds -/
def idxL (q : Lg → Bool) (L : List Lg) : Int := match L.findIdx? q with | some i => (i : Int) | none => -1
def IxRel (w : World) (q : Lg → Bool) (L : List Lg) (iv : Value) (wr : World) : Prop := ∃ k : Nat, k ≤ L.length ∧ iv = .int .i64 k ∧ (∀ g ∈ L.take k, q g = false) ∧ Fr No w wr
theorem index_any (F : Nat → Prop) (A : Option Addr) (c : Nat) (cells : List Value) (L : List Lg) (f : FuncId) (bs : Array Value) (q : Lg → Bool) (w : World) (hr : Rd w F 2 A L.length cells) (hE : Each RdLg 2 cells L) (hL : L.length ≤ 1000000)
    (hf : ∀ args W, (callFunc f args).run Tryz.prog W = .ok (.enter f args) W)
    (hc : ∀ W, Fr No w W → ∀ g ∈ L, Calls Tryz.prog f (#[.agg #[.string g.acct, .int .i64 g.sum]] ++ bs) W fun e w' => e = .returned (.bool (q g)) ∧ Fr No W w') :
    Calls Tryz.prog 154 #[.slice A L.length c, .func (.func f) #[] bs] w fun e w' => e = .returned (.int .i64 (idxL q L)) ∧ Fr No w w' := by
  have HR := Lib.hid hr
  have HE := Lib.hid hE
  have HC := Lib.hid hc
  clear hr hE hc
  go_enter Tryz.func154, Tryz.ntmps154
  go_wp2
  go_loopw [8] (fun iv wr => IxRel w q L iv wr) (fun iv _ => L.length - (intOf iv).toNat)
  case atStart => exact ⟨0, Nat.zero_le _, rfl, fun g hg => by simp at hg, Fr.refl _ _⟩
  case round =>
    obtain ⟨k, hk, rfl, hall, hfr⟩ := hrel
    by_cases hlt : k < L.length
    · obtain ⟨ad, rfl, _, hok, q0, q1⟩ := lg_at (HR.out.fr (by omega) hfr fun _ _ _ h => h) HE.out k hlt hlt
      have HCK := Lib.hid fun W hW => HC.out W hW L[k] (List.getElem_mem hlt)
      have HFR := Lib.hid hfr
      have hT : q L[k] = true → idxL q L = (k : Int) := fun h => by
        unfold idxL
        rw [List.findIdx?_eq_some_iff_getElem.2 ⟨hlt, h, fun j hj => by
          have := hall L[j] (List.mem_take_iff_getElem.2 ⟨j, by omega, rfl⟩)
          simp [this]⟩]
      have hN : q L[k] = false → ∀ g ∈ L.take (k + 1), q g = false := fun h g hg => by
        rw [List.take_succ_eq_append_getElem hlt, List.mem_append] at hg
        rcases hg with hg | hg
        · exact hall g hg
        · rw [List.mem_singleton.1 hg]; exact h
      have HT := Lib.hid hT
      have HN := Lib.hid hN
      generalize L[k] = g at *
      obtain ⟨nm, sm⟩ := g
      simp only at q0 q1 HCK
      clear hall hfr hok hT hN
      cases hb : q ⟨nm, sm⟩
      · rw [hb] at HCK
        have HN2 := Lib.hid (HN.out hb)
        clear HT HN hb
        go_wp2_with fail
        refine (HCK.out _ HFR.out).mono ?_
        rintro e w1 ⟨rfl, hf1⟩
        clear q0 q1
        go_wp2
        go_roundw
        case rel => exact ⟨k + 1, by omega, by go_num, HN2.out, HFR.out.trans hf1⟩
        case measure => simp [intOf]; omega
      · rw [hb] at HCK
        have HT2 := Lib.hid (HT.out hb)
        clear HT HN hb
        go_wp2_with fail
        refine (HCK.out _ HFR.out).mono ?_
        rintro e w1 ⟨rfl, hf1⟩
        clear q0 q1
        go_wp2
        go_ret
        exact ⟨by rw [HT2.out]; rfl, HFR.out.trans hf1⟩
    · obtain rfl : k = L.length := by omega
      have HF : Hid (idxL q L = -1) := by
        show _ = _
        unfold idxL
        rw [List.take_length] at hall
        rw [List.findIdx?_eq_none_iff.2 hall]
      go_wp2
      go_ret
      exact ⟨by rw [HF.out]; rfl, hfr⟩
theorem contains_any (F : Nat → Prop) (A : Option Addr) (c : Nat) (cells : List Value) (L : List Lg) (f : FuncId) (bs : Array Value) (q : Lg → Bool) (w : World) (hr : Rd w F 2 A L.length cells) (hE : Each RdLg 2 cells L) (hL : L.length ≤ 1000000)
    (hf : ∀ args W, (callFunc f args).run Tryz.prog W = .ok (.enter f args) W)
    (hc : ∀ W, Fr No w W → ∀ g ∈ L, Calls Tryz.prog f (#[.agg #[.string g.acct, .int .i64 g.sum]] ++ bs) W fun e w' => e = .returned (.bool (q g)) ∧ Fr No W w') :
    Calls Tryz.prog 135 #[.slice A L.length c, .func (.func f) #[] bs] w fun e w' => e = .returned (.bool (L.any q)) ∧ Fr No w w' := by
  have HX := Lib.hid (index_any F A c cells L f bs q w hr hE hL hf hc)
  have HA : Hid (decide (0 ≤ idxL q L) = L.any q) := by
    show _ = _
    unfold idxL
    cases h : L.findIdx? q with
    | none =>
      rw [List.findIdx?_eq_none_iff] at h
      simp only
      rw [List.any_eq_false.2 (fun x hx => by rw [h x hx]; decide)]
      rfl
    | some i =>
      obtain ⟨hlt, hi, _⟩ := List.findIdx?_eq_some_iff_getElem.1 h
      simp only
      rw [List.any_eq_true.2 ⟨L[i], List.getElem_mem hlt, hi⟩]
      exact decide_eq_true (by omega)
  clear hr hE hf hc
  go_enter Tryz.func135, Tryz.ntmps135
  go_wp2_with fail
  refine HX.out.mono ?_
  rintro e w1 ⟨rfl, hf1⟩
  go_wp2
  go_ret
  exact ⟨by rw [← HA.out]; rfl, hf1⟩
theorem same_any (s a : ByteArray) (n : Int) (g : Nat) (w : World) (hg : w.cell? ⟨g, 0, none⟩ = some (.string a)) : Calls Tryz.prog 134 #[.agg #[.string s, .int .i64 n], .pointer (some ⟨g, 0, none⟩)] w fun e w' => e = .returned (.bool (s.data.toList == a.data.toList)) ∧ Fr No w w' := by
  have hgl := World.block_lt_of_cell? w _ hg
  simp only at hgl
  go_enter Tryz.func134, Tryz.ntmps134
  go_wp2
  go_ret
  refine ⟨?_, (Fr.refl _ _).alloc _⟩
  rw [← ByteArray.toList_eq, ← ByteArray.toList_eq]
  rfl
end Go.Proofs.YtjbeaoabhhaiiaaGreat

namespace Go.Proofs.YtjbeaoabhhaiiaaGreat
open Go.RowKit Go.My Go.Maps
set_option linter.unusedSimpArgs false
set_option linter.unusedVariables false
attribute [local go_sem ↓] Go.wp_at_zero Go.wp_at_succ

def RlRel (w : World) (L : List Lg) (iv : Value) (wr : World) : Prop := ∃ k : Nat, k ≤ L.length ∧ iv = .int .i64 k ∧ (L.take k).all okLg = true ∧ ((L.take k).map Lg.nm).Nodup ∧ Fr No w wr
theorem rightB_dup {L : List Lg} (h : ¬ (L.map Lg.nm).Nodup) : rightB L = false := by
  unfold rightB
  rw [decide_eq_false h]
  simp
theorem rightB_all {L : List Lg} (h : 2 ≤ L.length ∧ L.length ≤ 6) (ha : L.all okLg = true) (hd : (L.map Lg.nm).Nodup) : rightB L = true := by
  unfold rightB
  have e : L.all (fun g => nameB g.nm && decide (g.sum ≠ 0)) = true := ha
  rw [e, decide_eq_true h.1, decide_eq_true h.2, decide_eq_true hd]
  rfl
theorem any_nm (L : List Lg) (k : Nat) (hk : k < L.length) : ((L.take k).any fun g => g.acct.data.toList == L[k].acct.data.toList) = decide (L[k].nm ∈ (L.take k).map Lg.nm) := by
  rw [Bool.eq_iff_iff, List.any_eq_true, decide_eq_true_eq, List.mem_map]
  constructor
  · rintro ⟨g, hg, he⟩
    exact ⟨g, hg, by simpa [Lg.nm] using he⟩
  · rintro ⟨g, hg, he⟩
    exact ⟨g, hg, by simpa [Lg.nm] using he⟩
theorem each_take {X : Type} {R : List Value → X → Prop} {size : Nat} {cells : List Value} {T : List X} (hE : Each R size cells T) (k : Nat) (hk : k ≤ T.length) : Each R size (cells.take (k * size)) (T.take k) := by
  refine ⟨?_, fun i x hx => ?_⟩
  · have := hE.1
    rw [List.length_take, List.length_take, this]
    rw [Nat.min_eq_left (Nat.mul_le_mul_right _ hk), Nat.min_eq_left hk]
  · have hlt : i < k := by
      have := (List.getElem?_eq_some_iff.1 hx).1
      rw [List.length_take] at this
      omega
    rw [List.getElem?_take, if_pos hlt] at hx
    have h := hE.2 i x hx
    rw [List.drop_take, List.take_take, Nat.min_eq_left]
    · exact h
    · rw [← Nat.sub_mul]
      have : 1 ≤ k - i := by omega
      calc size = 1 * size := by omega
        _ ≤ (k - i) * size := Nat.mul_le_mul_right _ this

set_option maxRecDepth 100000 in
set_option maxHeartbeats 4000000 in
theorem rightLegs_any (F : Nat → Prop) (A : Option Addr) (c : Nat) (cells : List Value) (L : List Lg) (w : World) (hr : Rd w F 2 A L.length cells) (hE : Each RdLg 2 cells L) (hlc : L.length ≤ c) (hcm : c ≤ maxLen) :
    Calls Tryz.prog 96 #[.slice A L.length c] w fun e w' => e = .returned (.bool (rightB L)) ∧ Fr No w w' := by
  have HR := Lib.hid hr
  have HE := Lib.hid hE
  have HLC := Lib.hid hlc
  clear hr hE hlc
  by_cases h2 : L.length < 2
  · have HB : Hid (rightB L = false) := rightB_len (by omega)
    have h2' : (L.length : Int) < 2 := by omega
    clear h2
    go_enter Tryz.func96, Tryz.ntmps96
    go_wp2
    go_ret
    exact ⟨by rw [HB.out]; rfl, Fr.refl _ _⟩
  by_cases h6 : 6 < L.length
  · have HB : Hid (rightB L = false) := rightB_len (by omega)
    have h2' : ¬ (L.length : Int) < 2 := by omega
    have h6' : (6 : Int) < (L.length : Int) := by omega
    clear h2 h6
    go_enter Tryz.func96, Tryz.ntmps96
    go_wp2
    go_ret
    exact ⟨by rw [HB.out]; rfl, Fr.refl _ _⟩
  have HLN : Hid (2 ≤ L.length ∧ L.length ≤ 6) := ⟨by omega, by omega⟩
  have h2' : ¬ (L.length : Int) < 2 := by omega
  have h6' : ¬ (6 : Int) < (L.length : Int) := by omega
  clear h2 h6
  go_enter Tryz.func96, Tryz.ntmps96
  go_wp2
  clear h2' h6'
  go_loopw [16] (fun iv wr => RlRel w L iv wr) (fun iv _ => L.length - (intOf iv).toNat)
  case atStart => exact ⟨0, Nat.zero_le _, rfl, rfl, by simp, Fr.refl _ _⟩
  case round =>
    obtain ⟨k, hk, rfl, hall, hnd, hfr⟩ := hrel
    by_cases hlt : k < L.length
    · obtain ⟨ad, rfl, _, hok, q0, q1⟩ := lg_at (HR.out.fr (by omega) hfr fun _ _ _ h => h) HE.out k hlt hlt
      have HBAD : Hid (okLg L[k] = false → rightB L = false) := rightB_bad hlt
      have HNX : Hid (okLg L[k] = true → (L.take (k + 1)).all okLg = true) := fun h => by
        rw [List.take_succ_eq_append_getElem hlt, List.all_append, hall]
        simp [h]
      have HDUP : Hid (L[k].nm ∈ (L.take k).map Lg.nm → rightB L = false) := fun h => rightB_dup fun hd => by
        obtain ⟨g, hg, he⟩ := List.mem_map.1 h
        obtain ⟨j, hj, rfl⟩ := List.mem_take_iff_getElem.1 hg
        have h3 := List.pairwise_iff_getElem.1 hd j k (by simp; omega) (by simpa using hlt) (by omega)
        simp only [List.getElem_map] at h3
        exact h3 he
      have HND : Hid (L[k].nm ∉ (L.take k).map Lg.nm → ((L.take (k + 1)).map Lg.nm).Nodup) := fun h => by
        rw [List.take_succ_eq_append_getElem hlt, List.map_append, List.nodup_append]
        refine ⟨hnd, by simp, fun x hx y hy => ?_⟩
        simp only [List.map_cons, List.map_nil, List.mem_singleton] at hy
        rintro rfl
        rw [hy] at hx
        exact h hx
      have HAN := Lib.hid (any_nm L k hlt)
      have hlk : (L.take k).length = k := by rw [List.length_take]; omega
      have HCT : Hid (∀ W g, Fr No wr W → W.cell? ⟨g, 0, none⟩ = some (.string L[k].acct) → Calls Tryz.prog 135 #[.slice (some ad) k c, .func (.func 134) #[] #[.pointer (some ⟨g, 0, none⟩)]] W fun e w' => e = .returned (.bool ((L.take k).any fun x => x.acct.data.toList == L[k].acct.data.toList)) ∧ Fr No W w') := fun W g hW hg => by
        have h := contains_any F (some ad) c (cells.take (k * 2)) (L.take k) 134 #[.pointer (some ⟨g, 0, none⟩)] (fun x => x.acct.data.toList == L[k].acct.data.toList) W (by
          rw [hlk]
          exact ((HR.out.fr (by omega) hfr fun _ _ _ h => h).fr (by omega) hW fun _ _ _ h => h).take (by omega)) (each_take HE.out k hk) (by rw [hlk]; have := HLN.out; omega) (enters_of Tryz.func134 (by kernel_rfl) rfl) (fun W' hW' x hx => same_any x.acct L[k].acct x.sum g W' (hW'.cell_some hg (fun h => h)))
        rw [hlk] at h
        exact h
      generalize L[k] = g at *
      obtain ⟨nm, sm⟩ := g
      unfold Lg.ok at hok
      simp only at q0 q1 hok HCT
      rw [HAN.out] at HCT
      have HNM := Lib.hid (ansName nm hok.1)
      have hbx := Blk.new wr 116 #[.string nm, .int .i64 sm]
      have HBX := Lib.hid hbx
      have HFR := Lib.hid hfr
      clear hall hnd hfr hok hbx HAN hlk
      go_wp2_with fail
      refine (HNM.out _).mono ?_
      rintro e w3 ⟨rfl, hf3⟩
      have hbx3 := HBX.out.fr hf3 (fun h => h)
      have x0 := hbx3.cell 0
      have x1 := hbx3.cell 1
      simp only [List.getElem?_toArray, List.getElem?_cons_zero, List.getElem?_cons_succ] at x0 x1
      have hf03 : Fr No wr w3 := ((Fr.refl No wr).alloc _).trans hf3
      have HF3 := Lib.hid (HFR.out.trans hf03)
      have HC3 := Lib.hid (HCT.out w3 wr.heap.size hf03 x0)
      have hok1 : okLg ⟨nm, sm⟩ = (nameB nm.data.toList && decide (sm ≠ 0)) := rfl
      clear hbx3 hf3 hf03 HNM HCT
      cases hn : nameB nm.data.toList
      · have HB := Lib.hid (HBAD.out (by rw [hok1, hn]; rfl))
        clear hn hok1 HBAD HNX HDUP HND HC3
        go_wp2
        go_ret
        exact ⟨by rw [HB.out]; rfl, HF3.out⟩
      · by_cases hs : sm = 0
        · have HB := Lib.hid (HBAD.out (by rw [hok1, hn, hs]; rfl))
          subst hs
          clear hn hok1 HBAD HNX HDUP HND HC3
          go_wp2
          go_ret
          exact ⟨by rw [HB.out]; rfl, HF3.out⟩
        · have HA := Lib.hid (HNX.out (by rw [hok1, hn]; simpa using hs))
          have hkc : k ≤ c := by have := HLC.out; omega
          have hk6 : k < 6 := by have := HLN.out; omega
          have hs2 : (sm == 0) = false := beq_eq_false_iff_ne.2 hs
          by_cases hm : (⟨nm, sm⟩ : Lg).nm ∈ (L.take k).map Lg.nm
          · have HB := Lib.hid (HDUP.out hm)
            rw [decide_eq_true hm] at HC3
            clear hn hok1 HBAD HNX HDUP HND hm hs
            go_wp2_with fail
            refine HC3.out.mono ?_
            rintro e w4 ⟨rfl, hf4⟩
            go_wp2
            go_ret
            exact ⟨by rw [HB.out]; rfl, HF3.out.trans hf4⟩
          · have HN := Lib.hid (HND.out hm)
            rw [decide_eq_false hm] at HC3
            clear hn hok1 HBAD HNX HDUP HND hm hs
            go_wp2_with fail
            refine HC3.out.mono ?_
            rintro e w4 ⟨rfl, hf4⟩
            go_wp2
            go_roundw
            case rel => exact ⟨k + 1, by omega, by go_num, HA.out, HN.out, HF3.out.trans hf4⟩
            case measure => simp [intOf]; omega
    · obtain rfl : k = L.length := by omega
      have HB : Hid (rightB L = true) := rightB_all HLN.out (by rw [List.take_length] at hall; exact hall) (by rw [List.take_length] at hnd; exact hnd)
      go_wp2
      go_ret
      exact ⟨by rw [HB.out]; rfl, hfr⟩
end Go.Proofs.YtjbeaoabhhaiiaaGreat

namespace Go.Proofs.YtjbeaoabhhaiiaaGreat
open Go.RowKit Go.My Go.Maps
set_option linter.unusedSimpArgs false
set_option linter.unusedVariables false
attribute [local go_sem ↓] Go.wp_at_zero Go.wp_at_succ

/-- an order -/
structure Od where
  cl : Int
  sq : Int
  kd : Int
  acct : ByteArray
  peer : ByteArray
  sum : Int
  legs : List Lg
  per : Int
  hold : Int
  note : ByteArray
def Od.an (o : Od) : List UInt8 := o.acct.data.toList
def Od.pn (o : Od) : List UInt8 := o.peer.data.toList
def Od.ok (o : Od) : Prop := In64 o.cl ∧ In64 o.sq ∧ In64 o.kd ∧ o.acct.size ≤ maxLen ∧ o.peer.size ≤ maxLen ∧ In64 o.sum ∧ In64 o.per ∧ In64 o.hold ∧ o.note.size ≤ maxLen
/-- its cells, the legs' slice given -/
def Od.cs (o : Od) (v : Value) : List Value := [.int .i64 o.cl, .int .i64 o.sq, .int .i64 o.kd, .string o.acct, .string o.peer, .int .i64 o.sum, v, .int .i64 o.per, .int .i64 o.hold, .string o.note]
/-- legs in memory -/
def LgS (w : World) (F : Nat → Prop) (v : Value) (L : List Lg) : Prop := ∃ A c cells, v = .slice A L.length c ∧ Rd w F 2 A L.length cells ∧ Each RdLg 2 cells L ∧ L.length ≤ c ∧ c ≤ maxLen
theorem LgS.no {w w' : World} {F : Nat → Prop} {v : Value} {L : List Lg} (h : LgS w F v L) (hf : Fr No w w') : LgS w' F v L := by
  obtain ⟨A, c, cells, rfl, hr, r⟩ := h
  exact ⟨A, c, cells, rfl, hr.fr (by omega) hf (fun _ _ _ h => h), r⟩

/-! ### which orders may be -/
def acctB (o : Od) : Bool := if o.kd = 2 ∨ o.kd = 6 then o.an.isEmpty else nameB o.an
def peerB (o : Od) : Bool := if o.kd = 4 then nameB o.pn && !(o.pn == o.an) else o.pn.isEmpty
def sumB (o : Od) : Bool := if o.kd = 1 then decide (0 ≤ o.sum) else if o.kd = 3 ∨ o.kd = 4 then decide (1 ≤ o.sum) else o.sum == 0
def legsB (o : Od) : Bool := if o.kd = 2 then rightB o.legs else o.legs.length == 0
def perB (o : Od) : Bool := if o.kd = 2 ∨ o.kd = 4 ∨ o.kd = 6 then decide (1 ≤ o.per) && decide (o.per ≤ 1000) else o.per == 0
def holdB (o : Od) : Bool := if o.kd = 4 ∨ o.kd = 5 then decide (1 ≤ o.hold) && decide (o.hold ≤ 9999) else o.hold == 0
def noteB (o : Od) : Bool := if o.kd = 2 then decide (o.note.data.toList.length ≤ 20) else o.note.data.toList.isEmpty
def rightO (o : Od) : Bool := decide (1 ≤ o.kd) && (decide (o.kd ≤ 7) && (idB o.cl o.sq && (acctB o && (peerB o && (sumB o && (legsB o && (perB o && (holdB o && noteB o))))))))

theorem zeroS (w : World) : (zeroValue 143).run Tryz.prog w = .ok (.agg zs7) w := by kernel_rfl
theorem shapeF_none {k : Int} (h : ¬ (1 ≤ k ∧ k ≤ 7)) : shapeF k = none := by
  unfold shapeF
  rw [if_neg (by omega), if_neg (by omega), if_neg (by omega), if_neg (by omega), if_neg (by omega), if_neg (by omega), if_neg (by omega)]
end Go.Proofs.YtjbeaoabhhaiiaaGreat

namespace Go.Proofs.YtjbeaoabhhaiiaaGreat
open Go.RowKit Go.My Go.Maps
set_option linter.unusedSimpArgs false
set_option linter.unusedVariables false
attribute [local go_sem ↓] Go.wp_at_zero Go.wp_at_succ

noncomputable def rg1s : { c : Code // regOf 1 Tryz.f44 = c } := ⟨_, by conv => lhs; whnf⟩
noncomputable def rg1 : Code := rg1s.1
def rgF (v0 v3 v4 v5 v6 v7 v8 v9 v10 v11 : Value) (b : Nat) : Array Value :=
  (v0 :: .pointer (some ⟨b, 0, none⟩) :: .bool false :: v3 :: v4 :: v5 :: v6 :: v7 :: v8 :: v9 :: v10 :: v11 :: undef :: undef :: undef :: undef :: undef :: undef :: undef :: undef :: undef :: undef :: undef :: undef :: undef :: undef :: undef :: undef :: undef :: undef :: undef :: undef :: undef :: undef :: undef :: undef :: undef :: undef :: undef :: undef :: undef :: undef :: undef :: undef :: undef :: undef :: undef :: undef :: undef :: undef :: undef :: undef :: undef :: undef :: undef :: undef :: undef :: undef :: undef :: undef :: undef :: undef :: undef :: undef :: undef :: undef :: undef :: undef :: undef :: []).toArray
set_option maxRecDepth 100000 in
set_option maxHeartbeats 4000000 in
theorem rg1_some {w : World} {b : Nat} {v0 : Value} {Q : Exit → Act → World → Prop} {c0 c1 c2 c3 c4 c5 c6 : FuncId} {o : Od} {v : Value} (hkd : In64 o.kd) (hb : Blk w b 35 (o.cs v).toArray) (hk : shapeF o.kd = some (.agg (shp c0 c1 c2 c3 c4 c5 c6)))
    (hQ : ∀ (p : Nat) (v5 v6 v7 v8 v9 v10 v11 : Value) w', Blk w' p 143 (shp c0 c1 c2 c3 c4 c5 c6) → Fr No w w' → Q .normal ⟨rgF v0 (.pointer (some ⟨p, 0, none⟩)) (.bool true) v5 v6 v7 v8 v9 v10 v11 b, []⟩ w') :
    Code.wp Tryz.prog rg1 Q ⟨rgF v0 undef undef undef undef undef undef undef undef undef b, []⟩ w := by
  have x2 := hb.cell 2
  simp only [Od.cs, List.getElem?_toArray, List.getElem?_cons_zero, List.getElem?_cons_succ] at x2
  have HX : Hid (∀ W, Fr No w W → Fr No w W ∧ W.cell? ⟨b, 2, none⟩ = some (.int .i64 o.kd)) := fun W hW => ⟨hW, hW.cell_some x2 (fun h => h)⟩
  have HSH := Lib.hid (fun W => shapes_any W)
  have hw1 : Fr No w w.drew := (Fr.refl No w).drew
  have HQ := Lib.hid hQ
  have HB := Lib.hid hb.lt
  have HLK : Hid (∀ m W, Tab Tryz.prog 3 W m 7 shapeF → (Instr.lookup 145 (.map (some m)) (.int .i64 o.kd) true).run Tryz.prog W = .ok (.tuple #[.agg #[.func (.func c0) #[] #[], .func (.func c1) #[] #[], .func (.func c2) #[] #[], .func (.func c3) #[] #[], .func (.func c4) #[] #[], .func (.func c5) #[] #[], .func (.func c6) #[] #[]], .bool true]) W) := fun m W h => by
    have h1 := h.look_ok Tryz.underlying3 Tryz.underlying145 (zeroS W) o.kd hkd
    rw [hk] at h1
    exact h1
  clear hb hQ x2 hk
  unfold rgF
  conv => arg 2; whnf
  refine wp_region_noPanic ?_
  have y0 := (HX.out _ hw1).2
  have y1 := fun O => (HX.out _ ((Fr.refl No w).alloc O).drew).2
  go_region_with (go_at_call 63; (with_reducible refine (HSH.out _).mono ?_); rintro e w4 ⟨m, rfl, hT, hf4⟩; have hlk := HLK.out m _ hT; have hlka := (fun O => HLK.out m _ (hT.fr ((Fr.refl No _).alloc O) (fun h => h))); have hg4 := (fun h => Fr.trans (S := No) (a := w) h hf4) (by first | exact hw1 | exact (Fr.drew (Fr.alloc (Fr.refl No w) _))); have y4 := (HX.out _ hg4).2; have y5 := (fun O => (HX.out _ (hg4.alloc O)).2); (try (have hbz : Blk w4 w.heap.size 143 zs7 := Blk.fr (w := ((w.alloc (.cells zs7 143)).drew)) (Blk.new w 143 zs7) hf4 (fun h => h); have z0 := hbz.cell 0; have z1 := hbz.cell 1; have z2 := hbz.cell 2; have z3 := hbz.cell 3; have z4 := hbz.cell 4; have z5 := hbz.cell 5; have z6 := hbz.cell 6; have fz := hbz.frozen; simp only [zs7, List.getElem?_toArray, List.getElem?_cons_zero, List.getElem?_cons_succ] at z0 z1 z2 z3 z4 z5 z6)))
  all_goals
    refine HQ.out _ _ _ _ _ _ _ _ _ ?_ ?_
  all_goals
    first
      | (unfold shp fnV; with_reducible exact Blk.new w4 _ _)
      | (with_reducible exact hg4.alloc _)
      | exact ((((((hbz.set_ 0 _).set_ 1 _).set_ 2 _).set_ 3 _).set_ 4 _).set_ 5 _).set_ 6 _
      | exact ((((((hg4.setCell (p := ⟨w.heap.size, 0, none⟩) (fun h => absurd h (Nat.lt_irrefl _)) _).setCell (p := ⟨w.heap.size, 1, none⟩) (fun h => absurd h (Nat.lt_irrefl _)) _).setCell (p := ⟨w.heap.size, 2, none⟩) (fun h => absurd h (Nat.lt_irrefl _)) _).setCell (p := ⟨w.heap.size, 3, none⟩) (fun h => absurd h (Nat.lt_irrefl _)) _).setCell (p := ⟨w.heap.size, 4, none⟩) (fun h => absurd h (Nat.lt_irrefl _)) _).setCell (p := ⟨w.heap.size, 5, none⟩) (fun h => absurd h (Nat.lt_irrefl _)) _).setCell (p := ⟨w.heap.size, 6, none⟩) (fun h => absurd h (Nat.lt_irrefl _)) _
set_option maxRecDepth 100000 in
set_option maxHeartbeats 4000000 in
theorem rg1_none {w : World} {b : Nat} {v0 : Value} {Q : Exit → Act → World → Prop} {o : Od} {v : Value} (hkd : In64 o.kd) (hb : Blk w b 35 (o.cs v).toArray) (hk : shapeF o.kd = none)
    (hQ : ∀ (p : Nat) (v5 v6 v7 v8 v9 v10 v11 : Value) w', Fr No w w' → Q .normal ⟨rgF v0 (.pointer (some ⟨p, 0, none⟩)) (.bool false) v5 v6 v7 v8 v9 v10 v11 b, []⟩ w') :
    Code.wp Tryz.prog rg1 Q ⟨rgF v0 undef undef undef undef undef undef undef undef undef b, []⟩ w := by
  have x2 := hb.cell 2
  simp only [Od.cs, List.getElem?_toArray, List.getElem?_cons_zero, List.getElem?_cons_succ] at x2
  have HX : Hid (∀ W, Fr No w W → Fr No w W ∧ W.cell? ⟨b, 2, none⟩ = some (.int .i64 o.kd)) := fun W hW => ⟨hW, hW.cell_some x2 (fun h => h)⟩
  have HSH := Lib.hid (fun W => shapes_any W)
  have hw1 : Fr No w w.drew := (Fr.refl No w).drew
  have HQ := Lib.hid hQ
  have HB := Lib.hid hb.lt
  have HLK : Hid (∀ m W, Tab Tryz.prog 3 W m 7 shapeF → (Instr.lookup 145 (.map (some m)) (.int .i64 o.kd) true).run Tryz.prog W = .ok (.tuple #[.agg #[.nilFunc, .nilFunc, .nilFunc, .nilFunc, .nilFunc, .nilFunc, .nilFunc], .bool false]) W) := fun m W h => by
    have h1 := h.look_ok Tryz.underlying3 Tryz.underlying145 (zeroS W) o.kd hkd
    rw [hk] at h1
    exact h1
  clear hb hQ x2 hk
  unfold rgF
  conv => arg 2; whnf
  refine wp_region_noPanic ?_
  have y0 := (HX.out _ hw1).2
  have y1 := fun O => (HX.out _ ((Fr.refl No w).alloc O).drew).2
  go_region_with (go_at_call 63; (with_reducible refine (HSH.out _).mono ?_); rintro e w4 ⟨m, rfl, hT, hf4⟩; have hlk := HLK.out m _ hT; have hlka := (fun O => HLK.out m _ (hT.fr ((Fr.refl No _).alloc O) (fun h => h))); have hg4 := (fun h => Fr.trans (S := No) (a := w) h hf4) (by first | exact hw1 | exact (Fr.drew (Fr.alloc (Fr.refl No w) _))); have y4 := (HX.out _ hg4).2; have y5 := (fun O => (HX.out _ (hg4.alloc O)).2); (try (have hbz : Blk w4 w.heap.size 143 zs7 := Blk.fr (w := ((w.alloc (.cells zs7 143)).drew)) (Blk.new w 143 zs7) hf4 (fun h => h); have z0 := hbz.cell 0; have z1 := hbz.cell 1; have z2 := hbz.cell 2; have z3 := hbz.cell 3; have z4 := hbz.cell 4; have z5 := hbz.cell 5; have z6 := hbz.cell 6; have fz := hbz.frozen; simp only [zs7, List.getElem?_toArray, List.getElem?_cons_zero, List.getElem?_cons_succ] at z0 z1 z2 z3 z4 z5 z6)))
  all_goals
    refine HQ.out _ _ _ _ _ _ _ _ _ ?_
  all_goals
    first
      | (with_reducible exact hg4.alloc _)
      | exact ((((((hg4.setCell (p := ⟨w.heap.size, 0, none⟩) (fun h => absurd h (Nat.lt_irrefl _)) _).setCell (p := ⟨w.heap.size, 1, none⟩) (fun h => absurd h (Nat.lt_irrefl _)) _).setCell (p := ⟨w.heap.size, 2, none⟩) (fun h => absurd h (Nat.lt_irrefl _)) _).setCell (p := ⟨w.heap.size, 3, none⟩) (fun h => absurd h (Nat.lt_irrefl _)) _).setCell (p := ⟨w.heap.size, 4, none⟩) (fun h => absurd h (Nat.lt_irrefl _)) _).setCell (p := ⟨w.heap.size, 5, none⟩) (fun h => absurd h (Nat.lt_irrefl _)) _).setCell (p := ⟨w.heap.size, 6, none⟩) (fun h => absurd h (Nat.lt_irrefl _)) _
end Go.Proofs.YtjbeaoabhhaiiaaGreat

namespace Go.Proofs.YtjbeaoabhhaiiaaGreat
open Go.RowKit Go.My Go.Maps
set_option linter.unusedSimpArgs false
set_option linter.unusedVariables false
attribute [local go_sem ↓] Go.wp_at_zero Go.wp_at_succ

def Od.val (o : Od) (v : Value) : Value := .agg (o.cs v).toArray
/-- the functions of a kind's fields are asked one after another -/
structure Asks (o : Od) (v : Value) (w : World) (c0 c1 c2 c3 c4 c5 c6 : FuncId) (b0 b1 b2 b3 b4 b5 b6 : Bool) : Prop where
  a0 : AnsB c0 #[.string o.acct] b0
  a1 : AnsB c1 #[.string o.peer, .string o.acct] b1
  a2 : AnsB c2 #[.int .i64 o.sum] b2
  a3 : ∀ W, Fr No w W → Calls Tryz.prog c3 #[v] W fun e w' => e = .returned (.bool b3) ∧ Fr No W w'
  a4 : AnsB c4 #[.int .i64 o.per] b4
  a5 : AnsB c5 #[.int .i64 o.hold] b5
  a6 : AnsB c6 #[.string o.note] b6
  e0 : ∀ args W, (callFunc c0 args).run Tryz.prog W = .ok (.enter c0 args) W
  e1 : ∀ args W, (callFunc c1 args).run Tryz.prog W = .ok (.enter c1 args) W
  e2 : ∀ args W, (callFunc c2 args).run Tryz.prog W = .ok (.enter c2 args) W
  e3 : ∀ args W, (callFunc c3 args).run Tryz.prog W = .ok (.enter c3 args) W
  e4 : ∀ args W, (callFunc c4 args).run Tryz.prog W = .ok (.enter c4 args) W
  e5 : ∀ args W, (callFunc c5 args).run Tryz.prog W = .ok (.enter c5 args) W
  e6 : ∀ args W, (callFunc c6 args).run Tryz.prog W = .ok (.enter c6 args) W
set_option maxRecDepth 100000 in
set_option maxHeartbeats 4000000 in
theorem right_some {o : Od} {v : Value} {w : World} {c0 c1 c2 c3 c4 c5 c6 : FuncId} {b0 b1 b2 b3 b4 b5 b6 : Bool} (ho : o.ok) (hk : shapeF o.kd = some (.agg (shp c0 c1 c2 c3 c4 c5 c6))) (hA : Asks o v w c0 c1 c2 c3 c4 c5 c6 b0 b1 b2 b3 b4 b5 b6) :
    Calls Tryz.prog 44 #[o.val v] w fun e w' => e = .returned (.bool (idB o.cl o.sq && (b0 && (b1 && (b2 && (b3 && (b4 && (b5 && b6)))))))) ∧ Fr No w w' := by
  have HA := Lib.hid hA
  have HID := Lib.hid (ansId o.cl o.sq)
  have HBX := Lib.hid (Blk.new w 35 (o.cs v).toArray)
  have HO := Lib.hid ho
  have HK := Lib.hid hk
  clear ho hk hA
  unfold Od.val
  obtain ⟨ocl, osq, okd, oac, ope, osm, olg, opr, ohd, ont⟩ := o
  unfold Od.cs at *
  go_enter Tryz.func44, Tryz.ntmps44
  go_wp2
  refine rg1_some (o := ⟨ocl, osq, okd, oac, ope, osm, olg, opr, ohd, ont⟩) (v := v) HO.out.2.2.1 HBX.out HK.out fun p v5 v6 v7 v8 v9 v10 v11 w2 hbp hf2 => ?_
  unfold rgF
  have HF2 : Hid (Fr No w w2) := ((Fr.refl No w).alloc _).trans hf2
  have hbx := HBX.out.fr hf2 (fun h => h)
  have HBX2 := Lib.hid hbx
  have HBP := Lib.hid hbp
  have HX : Hid (∀ W, Fr No w2 W → W.cell? ⟨w.heap.size, 0, none⟩ = some (.int .i64 ocl) ∧ W.cell? ⟨w.heap.size, 1, none⟩ = some (.int .i64 osq) ∧ W.cell? ⟨w.heap.size, 3, none⟩ = some (.string oac) ∧ W.cell? ⟨w.heap.size, 4, none⟩ = some (.string ope) ∧ W.cell? ⟨w.heap.size, 5, none⟩ = some (.int .i64 osm) ∧ W.cell? ⟨w.heap.size, 6, none⟩ = some v ∧ W.cell? ⟨w.heap.size, 7, none⟩ = some (.int .i64 opr) ∧ W.cell? ⟨w.heap.size, 8, none⟩ = some (.int .i64 ohd) ∧ W.cell? ⟨w.heap.size, 9, none⟩ = some (.string ont)) := fun W hW => by
    have h := HBX2.out.fr hW (fun h => h)
    exact ⟨h.cell 0, h.cell 1, h.cell 3, h.cell 4, h.cell 5, h.cell 6, h.cell 7, h.cell 8, h.cell 9⟩
  have HP : Hid (∀ W, Fr No w2 W → W.cell? ⟨p, 0, none⟩ = some (.func (.func c0) #[] #[]) ∧ W.cell? ⟨p, 1, none⟩ = some (.func (.func c1) #[] #[]) ∧ W.cell? ⟨p, 2, none⟩ = some (.func (.func c2) #[] #[]) ∧ W.cell? ⟨p, 3, none⟩ = some (.func (.func c3) #[] #[]) ∧ W.cell? ⟨p, 4, none⟩ = some (.func (.func c4) #[] #[]) ∧ W.cell? ⟨p, 5, none⟩ = some (.func (.func c5) #[] #[]) ∧ W.cell? ⟨p, 6, none⟩ = some (.func (.func c6) #[] #[])) := fun W hW => by
    have h := HBP.out.fr hW (fun h => h)
    exact ⟨h.cell 0, h.cell 1, h.cell 2, h.cell 3, h.cell 4, h.cell 5, h.cell 6⟩
  clear hbp hf2 hbx HBX HBX2 HBP HK HO
  have a0 := HA.out.a0
  have a1 := HA.out.a1
  have a2 := HA.out.a2
  have a3 := HA.out.a3
  have a4 := HA.out.a4
  have a5 := HA.out.a5
  have a6 := HA.out.a6
  simp only at a0 a1 a2 a3 a4 a5 a6
  have A0 := Lib.hid a0
  have A1 := Lib.hid a1
  have A2 := Lib.hid a2
  have A3 := Lib.hid a3
  have A4 := Lib.hid a4
  have A5 := Lib.hid a5
  have A6 := Lib.hid a6
  have e0 := HA.out.e0
  have e1 := HA.out.e1
  have e2 := HA.out.e2
  have e3 := HA.out.e3
  have e4 := HA.out.e4
  have e5 := HA.out.e5
  have e6 := HA.out.e6
  clear a0 a1 a2 a3 a4 a5 a6 HA
  obtain ⟨x0, x1, x3, x4, x5, x6, x7, x8, x9⟩ := HX.out _ (Fr.refl No w2)
  go_wp2_with fail
  refine (HID.out _).mono ?_
  rintro e u0 ⟨rfl, hg0⟩
  have HG0 := Lib.hid hg0
  clear hg0 x0 x1 x3 x4 x5 x6 x7 x8 x9
  cases hi : idB ocl osq
  · clear e0 e1 e2 e3 e4 e5 e6
    go_wp2
    go_ret
    exact ⟨by rw [hi]; rfl, HF2.out.trans HG0.out⟩
  obtain ⟨x0, x1, x3, x4, x5, x6, x7, x8, x9⟩ := HX.out _ HG0.out
  obtain ⟨y0, y1, y2, y3, y4, y5, y6⟩ := HP.out _ HG0.out
  go_wp2_with fail
  refine (A0.out _).mono ?_
  rintro e u1 ⟨rfl, hg1⟩
  have HG1 := Lib.hid (HG0.out.trans hg1)
  clear hg1 x0 x1 x3 x4 x5 x6 x7 x8 x9 y0 y1 y2 y3 y4 y5 y6
  cases b0
  · clear e0 e1 e2 e3 e4 e5 e6
    go_wp2
    go_ret
    exact ⟨by rw [hi]; rfl, HF2.out.trans HG1.out⟩
  obtain ⟨x0, x1, x3, x4, x5, x6, x7, x8, x9⟩ := HX.out _ HG1.out
  obtain ⟨y0, y1, y2, y3, y4, y5, y6⟩ := HP.out _ HG1.out
  go_wp2_with fail
  refine (A1.out _).mono ?_
  rintro e u2 ⟨rfl, hg2⟩
  have HG2 := Lib.hid (HG1.out.trans hg2)
  clear hg2 x0 x1 x3 x4 x5 x6 x7 x8 x9 y0 y1 y2 y3 y4 y5 y6
  cases b1
  · clear e0 e1 e2 e3 e4 e5 e6
    go_wp2
    go_ret
    exact ⟨by rw [hi]; rfl, HF2.out.trans HG2.out⟩
  obtain ⟨x0, x1, x3, x4, x5, x6, x7, x8, x9⟩ := HX.out _ HG2.out
  obtain ⟨y0, y1, y2, y3, y4, y5, y6⟩ := HP.out _ HG2.out
  go_wp2_with fail
  refine (A2.out _).mono ?_
  rintro e u3 ⟨rfl, hg3⟩
  have HG3 := Lib.hid (HG2.out.trans hg3)
  clear hg3 x0 x1 x3 x4 x5 x6 x7 x8 x9 y0 y1 y2 y3 y4 y5 y6
  cases b2
  · clear e0 e1 e2 e3 e4 e5 e6
    go_wp2
    go_ret
    exact ⟨by rw [hi]; rfl, HF2.out.trans HG3.out⟩
  obtain ⟨x0, x1, x3, x4, x5, x6, x7, x8, x9⟩ := HX.out _ HG3.out
  obtain ⟨y0, y1, y2, y3, y4, y5, y6⟩ := HP.out _ HG3.out
  go_wp2_with fail
  refine (A3.out _ (HF2.out.trans HG3.out)).mono ?_
  rintro e u4 ⟨rfl, hg4⟩
  have HG4 := Lib.hid (HG3.out.trans hg4)
  clear hg4 x0 x1 x3 x4 x5 x6 x7 x8 x9 y0 y1 y2 y3 y4 y5 y6
  cases b3
  · clear e0 e1 e2 e3 e4 e5 e6
    go_wp2
    go_ret
    exact ⟨by rw [hi]; rfl, HF2.out.trans HG4.out⟩
  obtain ⟨x0, x1, x3, x4, x5, x6, x7, x8, x9⟩ := HX.out _ HG4.out
  obtain ⟨y0, y1, y2, y3, y4, y5, y6⟩ := HP.out _ HG4.out
  go_wp2_with fail
  refine (A4.out _).mono ?_
  rintro e u5 ⟨rfl, hg5⟩
  have HG5 := Lib.hid (HG4.out.trans hg5)
  clear hg5 x0 x1 x3 x4 x5 x6 x7 x8 x9 y0 y1 y2 y3 y4 y5 y6
  cases b4
  · clear e0 e1 e2 e3 e4 e5 e6
    go_wp2
    go_ret
    exact ⟨by rw [hi]; rfl, HF2.out.trans HG5.out⟩
  obtain ⟨x0, x1, x3, x4, x5, x6, x7, x8, x9⟩ := HX.out _ HG5.out
  obtain ⟨y0, y1, y2, y3, y4, y5, y6⟩ := HP.out _ HG5.out
  go_wp2_with fail
  refine (A5.out _).mono ?_
  rintro e u6 ⟨rfl, hg6⟩
  have HG6 := Lib.hid (HG5.out.trans hg6)
  clear hg6 x0 x1 x3 x4 x5 x6 x7 x8 x9 y0 y1 y2 y3 y4 y5 y6
  cases b5
  · clear e0 e1 e2 e3 e4 e5 e6
    go_wp2
    go_ret
    exact ⟨by rw [hi]; rfl, HF2.out.trans HG6.out⟩
  obtain ⟨x0, x1, x3, x4, x5, x6, x7, x8, x9⟩ := HX.out _ HG6.out
  obtain ⟨y0, y1, y2, y3, y4, y5, y6⟩ := HP.out _ HG6.out
  go_wp2_with fail
  refine (A6.out _).mono ?_
  rintro e u7 ⟨rfl, hg7⟩
  have HG7 := Lib.hid (HG6.out.trans hg7)
  clear hg7 x0 x1 x3 x4 x5 x6 x7 x8 x9 y0 y1 y2 y3 y4 y5 y6
  clear e0 e1 e2 e3 e4 e5 e6
  go_wp2
  go_ret
  exact ⟨by rw [hi]; rfl, HF2.out.trans HG7.out⟩
set_option maxRecDepth 100000 in
set_option maxHeartbeats 4000000 in
theorem right_none {o : Od} {v : Value} {w : World} (ho : o.ok) (hk : shapeF o.kd = none) :
    Calls Tryz.prog 44 #[o.val v] w fun e w' => e = .returned (.bool false) ∧ Fr No w w' := by
  have HBX := Lib.hid (Blk.new w 35 (o.cs v).toArray)
  have HO := Lib.hid ho
  have HK := Lib.hid hk
  clear ho hk
  unfold Od.val
  obtain ⟨ocl, osq, okd, oac, ope, osm, olg, opr, ohd, ont⟩ := o
  unfold Od.cs at *
  go_enter Tryz.func44, Tryz.ntmps44
  go_wp2
  refine rg1_none (o := ⟨ocl, osq, okd, oac, ope, osm, olg, opr, ohd, ont⟩) (v := v) HO.out.2.2.1 HBX.out HK.out fun p v5 v6 v7 v8 v9 v10 v11 w2 hf2 => ?_
  unfold rgF
  have HF2 : Hid (Fr No w w2) := ((Fr.refl No w).alloc _).trans hf2
  clear hf2 HBX HK HO
  go_wp2
  go_ret
  exact ⟨rfl, HF2.out⟩

theorem k_name (args : Array Value) (W : World) : (callFunc 29 args).run Tryz.prog W = .ok (.enter 29 args) W := by kernel_rfl
theorem k_1 (args : Array Value) (W : World) : (callFunc 88 args).run Tryz.prog W = .ok (.enter 88 args) W := by kernel_rfl
theorem k_2 (args : Array Value) (W : World) : (callFunc 89 args).run Tryz.prog W = .ok (.enter 89 args) W := by kernel_rfl
theorem k_3 (args : Array Value) (W : World) : (callFunc 90 args).run Tryz.prog W = .ok (.enter 90 args) W := by kernel_rfl
theorem k_4 (args : Array Value) (W : World) : (callFunc 91 args).run Tryz.prog W = .ok (.enter 91 args) W := by kernel_rfl
theorem k_5 (args : Array Value) (W : World) : (callFunc 92 args).run Tryz.prog W = .ok (.enter 92 args) W := by kernel_rfl
theorem k_6 (args : Array Value) (W : World) : (callFunc 93 args).run Tryz.prog W = .ok (.enter 93 args) W := by kernel_rfl
theorem k_7 (args : Array Value) (W : World) : (callFunc 94 args).run Tryz.prog W = .ok (.enter 94 args) W := by kernel_rfl
theorem k_8 (args : Array Value) (W : World) : (callFunc 95 args).run Tryz.prog W = .ok (.enter 95 args) W := by kernel_rfl
theorem k_legs (args : Array Value) (W : World) : (callFunc 96 args).run Tryz.prog W = .ok (.enter 96 args) W := by kernel_rfl
theorem k_per (args : Array Value) (W : World) : (callFunc 97 args).run Tryz.prog W = .ok (.enter 97 args) W := by kernel_rfl
theorem k_hold (args : Array Value) (W : World) : (callFunc 101 args).run Tryz.prog W = .ok (.enter 101 args) W := by kernel_rfl
theorem k_note (args : Array Value) (W : World) : (callFunc 98 args).run Tryz.prog W = .ok (.enter 98 args) W := by kernel_rfl
theorem k_sum (args : Array Value) (W : World) : (callFunc 99 args).run Tryz.prog W = .ok (.enter 99 args) W := by kernel_rfl
theorem k_peer (args : Array Value) (W : World) : (callFunc 100 args).run Tryz.prog W = .ok (.enter 100 args) W := by kernel_rfl

/-- which orders may be -/
theorem rightO_any (F : Nat → Prop) (o : Od) (v : Value) (w : World) (ho : o.ok) (hv : LgS w F v o.legs) :
    Calls Tryz.prog 44 #[o.val v] w fun e w' => e = .returned (.bool (rightO o)) ∧ Fr No w w' := by
  have hLg : ∀ W, Fr No w W → Calls Tryz.prog 96 #[v] W fun e w' => e = .returned (.bool (rightB o.legs)) ∧ Fr No W w' := fun W hW => by
    obtain ⟨A, c, cells, rfl, hr, hE, h1, h2⟩ := hv.no hW
    exact rightLegs_any F A c cells o.legs W hr hE h1 h2
  have hL4 : ∀ W, Fr No w W → Calls Tryz.prog 91 #[v] W fun e w' => e = .returned (.bool (o.legs.length == 0)) ∧ Fr No W w' := fun W hW => by
    obtain ⟨A, c, cells, rfl, hr, hE, h1, h2⟩ := hv
    exact ans4 A o.legs.length c W
  have hName := ansName o.acct ho.2.2.2.1
  have hPeer := ansPeer o.peer o.acct ho.2.2.2.2.1
  by_cases hk : 1 ≤ o.kd ∧ o.kd ≤ 7
  · have e1 : decide (1 ≤ o.kd) = true := decide_eq_true hk.1
    have e2 : decide (o.kd ≤ 7) = true := decide_eq_true hk.2
    unfold rightO
    rw [e1, e2, Bool.true_and, Bool.true_and]
    have h7 : o.kd = 1 ∨ o.kd = 2 ∨ o.kd = 3 ∨ o.kd = 4 ∨ o.kd = 5 ∨ o.kd = 6 ∨ o.kd = 7 := by omega
    unfold acctB peerB sumB legsB perB holdB noteB
    rcases h7 with h | h | h | h | h | h | h <;> simp only [h, Int.reduceEq, if_true, if_false, or_true, true_or, or_false, or_self, false_or]
    · exact right_some ho (by rw [h]; rfl) ⟨hName, ans2 _ _, ans8 _, hL4, ans5 _, ans6 _, ans7 _, k_name, k_2, k_8, k_4, k_5, k_6, k_7⟩
    · exact right_some ho (by rw [h]; rfl) ⟨ans1 _, ans2 _ _, ans3 _, hLg, ansPeriod _, ans6 _, ansNote _, k_1, k_2, k_3, k_legs, k_per, k_6, k_note⟩
    · exact right_some ho (by rw [h]; rfl) ⟨hName, ans2 _ _, ansSum _, hL4, ans5 _, ans6 _, ans7 _, k_name, k_2, k_sum, k_4, k_5, k_6, k_7⟩
    · exact right_some ho (by rw [h]; rfl) ⟨hName, hPeer, ansSum _, hL4, ansPeriod _, ansHold _, ans7 _, k_name, k_peer, k_sum, k_4, k_per, k_hold, k_7⟩
    · exact right_some ho (by rw [h]; rfl) ⟨hName, ans2 _ _, ans3 _, hL4, ans5 _, ansHold _, ans7 _, k_name, k_2, k_3, k_4, k_5, k_hold, k_7⟩
    · exact right_some ho (by rw [h]; rfl) ⟨ans1 _, ans2 _ _, ans3 _, hL4, ansPeriod _, ans6 _, ans7 _, k_1, k_2, k_3, k_4, k_per, k_6, k_7⟩
    · exact right_some ho (by rw [h]; rfl) ⟨hName, ans2 _ _, ans3 _, hL4, ans5 _, ans6 _, ans7 _, k_name, k_2, k_3, k_4, k_5, k_6, k_7⟩
  · have e : rightO o = false := by
      unfold rightO
      by_cases h1 : 1 ≤ o.kd
      · have : decide (o.kd ≤ 7) = false := decide_eq_false (fun h => hk ⟨h1, h⟩)
        rw [this, Bool.false_and, Bool.and_false]
      · rw [decide_eq_false h1, Bool.false_and]
    rw [e]
    exact right_none ho (shapeF_none hk)
end Go.Proofs.YtjbeaoabhhaiiaaGreat

namespace Go.Proofs.YtjbeaoabhhaiiaaGreat
open Go.RowKit Go.My Go.Maps
set_option linter.unusedSimpArgs false
set_option linter.unusedVariables false

structure KpB (S : List Ac) (H : List Hd) : Prop where
  inv : Inv S
  snd : ∀ nm a, getA S nm = some a → -a.lim ≤ a.hv - a.st
  set : ∀ nm a, getA S nm = some a → heldOf H nm = a.st
  own : ∀ h ∈ H, (getA S h.acct).isSome = true
theorem KpB.good {S : List Ac} {H : List Hd} (h : KpB S H) : Snd S := fun a ha => h.snd a.name a (getA_mem h.inv.rise ha)
theorem KpB.upd {S : List Ac} {H H' : List Hd} (h : KpB S H) {k : List UInt8} {c c' : Ac} (hg : getA S k = some c) (hn : c'.name = c.name) (hI : Inv (putA c' S)) (hs : -c'.lim ≤ c'.hv - c'.st) (hH : ∀ nm, heldOf H' nm = heldOf H nm + if nm = k then c'.st - c.st else 0) (hO : ∀ x ∈ H', x ∈ H ∨ x.acct = k) : KpB (putA c' S) H' where
  inv := hI
  snd nm a ha := by
    rw [getA_upd hg hn] at ha
    by_cases e : nm = k
    · rw [if_pos e] at ha
      injection ha with ha
      subst ha
      exact hs
    · rw [if_neg e] at ha
      exact h.snd nm a ha
  set nm a ha := by
    rw [getA_upd hg hn] at ha
    rw [hH]
    by_cases e : nm = k
    · rw [if_pos e] at ha ⊢
      injection ha with ha
      subst ha
      have := h.set k c hg
      rw [e]
      omega
    · rw [if_neg e] at ha ⊢
      have := h.set nm a ha
      omega
  own x hx := by
    rw [getA_upd hg hn]
    by_cases e : x.acct = k
    · rw [if_pos e]; rfl
    · rw [if_neg e]
      rcases hO x hx with h1 | h1
      · exact h.own x h1
      · exact absurd h1 e
theorem KpB.give {S : List Ac} {H : List Hd} (h : KpB S H) (nm : List UInt8) (x : Int) : KpB (actS (fun a => giveE a x) (fun a => giveA a x) S nm) H := by
  have hI := inv_give h.inv nm x
  unfold actS at hI ⊢
  cases hg : getA S nm with
  | none => exact h
  | some a =>
    rw [hg] at hI
    simp only at hI ⊢
    by_cases h0 : giveE a x = 0
    · rw [if_pos h0] at hI ⊢
      have e : giveA a x = { a with hv := a.hv - x } := by unfold giveA; rw [if_pos h0]
      rw [e] at hI ⊢
      refine h.upd hg rfl hI ?_ (fun k => by simp) (fun y hy => .inl hy)
      have h1 := h.snd nm a hg
      unfold giveE at h0
      split at h0
      · split at h0
        · cases h0
        · rename_i h2
          unfold freeB at h2
          simp only [decide_eq_false_iff_not, not_and, Classical.not_not] at h2
          simp only
          by_cases hx : 0 < x
          · have := h2 hx; omega
          · omega
      · cases h0
    · rw [if_neg h0]
      exact h
theorem KpB.leg {S : List Ac} {H : List Hd} (h : KpB S H) (g : Lg) : KpB (legS S g) H := by
  unfold legS
  split
  · exact h.give _ _
  · exact h
theorem KpB.legs {S : List Ac} {H : List Hd} (h : KpB S H) (L : List Lg) : KpB (legsS S L) H := by
  induction L generalizing S with
  | nil => exact h
  | cons g r ih =>
    unfold legsS
    split
    · exact ih (h.leg g)
    · exact h
theorem KpB.make {S : List Ac} {H : List Hd} (h : KpB S H) (L : List Lg) : KpB (makeS S L) H := by
  unfold makeS
  split
  · exact h.legs L
  · exact h
theorem KpB.aside {S : List Ac} {H H' : List Hd} (h : KpB S H) {nm : List UInt8} {x : Int} (h0 : asdE S nm x = 0) (hH : ∀ k, heldOf H' k = heldOf H k + if k = nm then x else 0) (hO : ∀ y ∈ H', y ∈ H ∨ y.acct = nm) : KpB (asdS S nm x) H' := by
  have hI := inv_aside h.inv nm x
  unfold asdE actE at h0
  unfold asdS actS at hI ⊢
  cases hg : getA S nm with
  | none => rw [hg] at h0; cases h0
  | some a =>
    rw [hg] at hI h0
    simp only at hI h0 ⊢
    rw [if_pos h0] at hI ⊢
    have e : asideA a x = { a with st := a.st + x } := by unfold asideA; rw [if_pos h0]
    rw [e] at hI ⊢
    refine h.upd hg rfl hI ?_ (fun k => by rw [hH k]; simp only; split <;> omega) hO
    have h1 := h.snd nm a hg
    unfold asideE at h0
    split at h0
    · split at h0
      · cases h0
      · rename_i h2
        unfold freeB at h2
        simp only [decide_eq_false_iff_not, not_and, Classical.not_not] at h2
        simp only
        by_cases hx : 0 < x
        · have := h2 hx; omega
        · omega
    · cases h0
theorem heldOf_none {S : List Ac} {H : List Hd} (h : KpB S H) {nm : List UInt8} (hg : getA S nm = none) : heldOf H nm = 0 := by
  have : ofH H nm = [] := by
    unfold ofH
    rw [List.filter_eq_nil_iff]
    intro x hx he
    have h1 := h.own x hx
    have h2 : x.acct = nm := by simpa using he
    rw [h2, hg] at h1
    cases h1
  unfold heldOf
  rw [this]
  rfl
theorem KpB.open {S : List Ac} {H : List Hd} (h : KpB S H) (nm : List UInt8) (lim : Int) (hl : In64 lim) : KpB (openS S nm lim) H := by
  have hI := inv_open h.inv nm lim hl
  unfold openS at hI ⊢
  by_cases h0 : openE S nm lim = 0
  · rw [if_pos h0] at hI ⊢
    have h1 : getA S nm = none ∧ 0 ≤ lim := by
      unfold openE at h0
      split at h0
      · cases h0
      · rename_i h1
        split at h0
        · cases h0
        · rename_i h2
          exact ⟨by simpa using h2, by omega⟩
    have hget : ∀ k, getA (putA ⟨nm, 0, 0, lim⟩ S) k = if k = nm then some ⟨nm, 0, 0, lim⟩ else getA S k := fun k => by
      by_cases e : k = nm
      · rw [if_pos e, e]
        exact getA_put_same S ⟨nm, 0, 0, lim⟩
      · rw [if_neg e]
        exact getA_put_other S ⟨nm, 0, 0, lim⟩ k (fun e2 => e e2)
    refine ⟨hI, fun k a ha => ?_, fun k a ha => ?_, fun x hx => ?_⟩
    · rw [hget] at ha
      by_cases e : k = nm
      · rw [if_pos e] at ha
        injection ha with ha
        subst ha
        simp only
        omega
      · rw [if_neg e] at ha
        exact h.snd k a ha
    · rw [hget] at ha
      by_cases e : k = nm
      · rw [if_pos e] at ha
        injection ha with ha
        subst ha
        rw [e]
        exact heldOf_none h h1.1
      · rw [if_neg e] at ha
        exact h.set k a ha
    · rw [hget]
      by_cases e : x.acct = nm
      · rw [if_pos e]; rfl
      · rw [if_neg e]; exact h.own x hx
  · rw [if_neg h0]
    exact h
/-- a book's accounts and holds -/
structure StB (S : List Ac) (H : List Hd) : Prop where
  kp : KpB S H
  pos : PosH H
  rise : RiseH H
  few : ∀ nm, (ofH H nm).length ≤ 8
theorem StB.none : StB [] [] :=
  { kp := { inv := inv0, snd := (fun nm a h => by cases h), set := (fun nm a h => by cases h), own := (fun h hh => by cases hh) }
    pos := (fun h hh => by cases hh)
    rise := List.Pairwise.nil
    few := (fun nm => by simp [ofH]) }
theorem StB.del {S S' : List Ac} {H : List Hd} {a : List UInt8} {n : Int} (h : StB S H) (hk : KpB S' (delH H a n)) : StB S' (delH H a n) :=
  ⟨hk, fun y hy => h.pos y (List.mem_filter.1 hy).1, rise_filter h.rise _, fun nm => Nat.le_trans (of_len_del H _ _ nm) (h.few nm)⟩
theorem StB.put {S : List Ac} {H : List Hd} (h : StB S H) (n x : Int) (a : List UInt8) (hx : x ≤ 9223372036854775807) (ha : a.length ≤ 8) : StB (putSS S H n a x) (putHH S H n a x) := by
  by_cases h0 : putE S H n a x = 0
  · obtain ⟨h1, h2, h3, h4, h5, h6⟩ := put_zero h0
    unfold putSS putHH
    rw [if_pos h0, if_pos h0]
    refine ⟨h.kp.aside h6 (fun k => held_ins ⟨n, a, x⟩ H k) (fun y hy => ?_), fun y hy => ?_, rise_insH _ _ h.rise h4, fun nm => ?_⟩
    · rcases (mem_insH _ _ _).1 hy with rfl | hy
      · exact .inr rfl
      · exact .inl hy
    · rcases (mem_insH _ _ _).1 hy with rfl | hy
      · exact ⟨h1, h2, h3, hx, ha⟩
      · exact h.pos y hy
    · have := of_len_ins ⟨n, a, x⟩ H nm
      simp only at this
      by_cases e : nm = a
      · subst e
        rw [if_pos rfl] at this
        omega
      · rw [if_neg e] at this
        have := h.few nm
        omega
  · unfold putSS putHH
    rw [if_neg h0, if_neg h0]
    exact h
theorem StB.free {S : List Ac} {H : List Hd} (h : StB S H) (a : List UInt8) (n : Int) : StB (freeSS S H a n) (freeHH S H a n) ∧ (freeE S H a n ≠ 0 → freeSS S H a n = S) := by
  unfold freeHH freeSS freeE
  cases hg : getH H a n with
  | none => exact ⟨h, fun _ => rfl⟩
  | some y =>
    simp only
    by_cases h0 : asdE S a (-y.sum) = 0
    · rw [if_pos h0]
      exact ⟨h.del (h.kp.aside h0 (fun k => held_del h.rise hg k) (fun z hz => .inl (List.mem_filter.1 hz).1)), fun e => absurd h0 e⟩
    · rw [if_neg h0]
      have e : asdS S a (-y.sum) = S := act_err h0
      rw [e]
      exact ⟨h, fun _ => rfl⟩
theorem StB.take {S : List Ac} {H : List Hd} (h : StB S H) (a b : ByteArray) (n x : Int) : StB (takeSS S H a n b x) (takeHH S H a n b x) := by
  by_cases h0 : takeE S H a n b x = 0
  · unfold takeSS takeHH
    rw [if_pos h0, if_pos h0]
    unfold takeE at h0
    cases hg : getH H a.data.toList n with
    | none => rw [hg] at h0; cases h0
    | some y =>
      rw [hg] at h0
      simp only at h0
      split at h0
      · cases h0
      · split at h0
        · rename_i h1
          exact h.del ((h.kp.aside h1 (fun k => held_del h.rise hg k) (fun z hz => .inl (List.mem_filter.1 hz).1)).make _)
        · rename_i h1
          exact absurd h0 h1
  · unfold takeSS takeHH
    rw [if_neg h0, if_neg h0]
    exact h
theorem StB.post {S : List Ac} {H : List Hd} (h : StB S H) (L : List Lg) : StB (makeS S L) H := ⟨h.kp.make L, h.pos, h.rise, h.few⟩
theorem StB.open {S : List Ac} {H : List Hd} (h : StB S H) (nm : List UInt8) (lim : Int) (hl : In64 lim) : StB (openS S nm lim) H := ⟨h.kp.open nm lim hl, h.pos, h.rise, h.few⟩
end Go.Proofs.YtjbeaoabhhaiiaaGreat

namespace Go.Proofs.YtjbeaoabhhaiiaaGreat
open Go.RowKit Go.My Go.Maps
set_option linter.unusedSimpArgs false
set_option linter.unusedVariables false

/-- a book -/
structure Bk where
  S : List Ac
  H : List Hd
  cl : Int
def bk0 : Bk := ⟨[], [], 0⟩
def errR (e : Int) : Rp := ⟨e, 0, 0, 0⟩
/-- what is told of an account, where e was done -/
def aboutR (S : List Ac) (nm : List UInt8) (e : Int) : Rp := if e = 0 then ⟨(if (getA S nm).isSome then 0 else 6), (getV S nm).hv, (getV S nm).st, 0⟩ else errR e
def numO (o : Od) : Int := wrap64 (1000 * o.cl + o.sq)
def numR (r : Rp) (n : Int) : Rp := if r.err = 0 then { r with num := n } else r
/-- what an order that may be does -/
def effR (b : Bk) (o : Od) : Rp :=
  if o.kd = 1 then aboutR (openS b.S o.an o.sum) o.an (openE b.S o.an o.sum)
  else if o.kd = 2 then (if o.per ≤ b.cl then errR 10 else errR (checkE b.S o.legs))
  else if o.kd = 3 then numR (aboutR (putSS b.S b.H (numO o) o.an o.sum) o.an (putE b.S b.H (numO o) o.an o.sum)) (numO o)
  else if o.kd = 4 then (if o.per ≤ b.cl then errR 10 else aboutR (takeSS b.S b.H o.acct o.hold o.peer o.sum) o.an (takeE b.S b.H o.acct o.hold o.peer o.sum))
  else if o.kd = 5 then aboutR (freeSS b.S b.H o.an o.hold) o.an (freeE b.S b.H o.an o.hold)
  else if o.kd = 6 then (if o.per ≤ b.cl then errR 10 else ⟨0, 0, 0, o.per⟩)
  else aboutR b.S o.an 0
def effB (b : Bk) (o : Od) : Bk :=
  if o.kd = 1 then ⟨openS b.S o.an o.sum, b.H, b.cl⟩
  else if o.kd = 2 then (if o.per ≤ b.cl then b else ⟨makeS b.S o.legs, b.H, b.cl⟩)
  else if o.kd = 3 then ⟨putSS b.S b.H (numO o) o.an o.sum, putHH b.S b.H (numO o) o.an o.sum, b.cl⟩
  else if o.kd = 4 then (if o.per ≤ b.cl then b else ⟨takeSS b.S b.H o.acct o.hold o.peer o.sum, takeHH b.S b.H o.acct o.hold o.peer o.sum, b.cl⟩)
  else if o.kd = 5 then ⟨freeSS b.S b.H o.an o.hold, freeHH b.S b.H o.an o.hold, b.cl⟩
  else if o.kd = 6 then (if o.per ≤ b.cl then b else ⟨b.S, b.H, o.per⟩)
  else b
def doR (b : Bk) (o : Od) : Rp := if rightO o = true then effR b o else errR 1
def doB (b : Bk) (o : Od) : Bk := if rightO o = true then effB b o else b
/-- orders, one behind the other -/
def foldB : Bk → List Od → Bk
  | b, [] => b
  | b, o :: r => foldB (doB b o) r
def foldR : Bk → List Od → List Rp
  | _, [] => []
  | b, o :: r => doR b o :: foldR (doB b o) r
theorem foldB_append (b : Bk) (l m : List Od) : foldB b (l ++ m) = foldB (foldB b l) m := by
  induction l generalizing b with
  | nil => rfl
  | cons o r ih => exact ih _
theorem foldR_append (b : Bk) (l m : List Od) : foldR b (l ++ m) = foldR b l ++ foldR (foldB b l) m := by
  induction l generalizing b with
  | nil => rfl
  | cons o r ih =>
    show doR b o :: foldR (doB b o) (r ++ m) = _
    rw [ih]
    rfl
theorem foldR_length (b : Bk) (l : List Od) : (foldR b l).length = l.length := by
  induction l generalizing b with
  | nil => rfl
  | cons o r ih => show (foldR (doB b o) r).length + 1 = _; rw [ih]; rfl

/-- what holds of a book -/
structure BkI (b : Bk) : Prop where
  st : StB b.S b.H
  cl : 0 ≤ b.cl ∧ b.cl ≤ 1000
theorem bki0 : BkI bk0 := ⟨StB.none, by unfold bk0; exact ⟨Int.le_refl 0, by decide⟩⟩
theorem filter_or (p q : Hd → Bool) : ∀ l : List Hd, (l.filter fun x => p x || q x).length ≤ (l.filter p).length + (l.filter q).length
  | [] => by simp
  | x :: r => by
    have ih := filter_or p q r
    rw [List.filter_cons, List.filter_cons, List.filter_cons]
    cases p x <;> cases q x <;> simp <;> omega
theorem few_all {H : List Hd} (hf : ∀ nm, (ofH H nm).length ≤ 8) : ∀ S : List Ac, (H.filter fun x => S.any fun a => a.name == x.acct).length ≤ 8 * S.length
  | [] => by simp
  | a :: r => by
    have ih := few_all hf r
    have h1 := filter_or (fun x => a.name == x.acct) (fun x => r.any fun a => a.name == x.acct) H
    have h2 := hf a.name
    have h3 : (H.filter fun x => a.name == x.acct) = ofH H a.name := by
      unfold ofH
      apply List.filter_congr
      intro x _
      exact BEq.comm
    rw [h3] at h1
    have h4 : (H.filter fun x => (a :: r).any fun a => a.name == x.acct) = H.filter fun x => (a.name == x.acct) || (r.any fun a => a.name == x.acct) := by simp only [List.any_cons]
    rw [h4, List.length_cons]
    omega
/-- few holds -/
theorem StB.len {S : List Ac} {H : List Hd} (h : StB S H) : H.length ≤ 96 := by
  have h1 := few_all h.few S
  have h2 : (H.filter fun x => S.any fun a => a.name == x.acct) = H := by
    rw [List.filter_eq_self]
    intro x hx
    have h3 := h.kp.own x hx
    cases hg : getA S x.acct with
    | none => rw [hg] at h3; cases h3
    | some a =>
      rw [List.any_eq_true]
      exact ⟨a, (getA_some hg).1, by simpa using (getA_some hg).2⟩
  rw [h2] at h1
  have := h.kp.inv.len
  omega
/-- what an order that may be is like -/
theorem right_kd {o : Od} (h : rightO o = true) : (1 ≤ o.kd ∧ o.kd ≤ 7) ∧ (0 ≤ o.cl ∧ o.cl ≤ 9 ∧ 1 ≤ o.sq ∧ o.sq ≤ 999) ∧ (o.kd = 2 ∨ o.kd = 6 ∨ nameB o.an = true) ∧ (o.kd = 2 ∨ o.kd = 4 ∨ o.kd = 6 → 1 ≤ o.per ∧ o.per ≤ 1000) := by
  unfold rightO idB at h
  simp only [Bool.and_eq_true, decide_eq_true_eq] at h
  obtain ⟨h1, h2, ⟨h3, h4, h5, h6⟩, ha, hp, hs, hl, hper, hh, hn⟩ := h
  refine ⟨⟨h1, h2⟩, ⟨h3, h4, h5, h6⟩, ?_, fun hk => ?_⟩
  · unfold acctB at ha
    split at ha
    · rename_i h; rcases h with h | h
      · exact .inl h
      · exact .inr (.inl h)
    · exact .inr (.inr ha)
  · unfold perB at hper
    rw [if_pos hk] at hper
    simpa using hper
theorem name_len {l : List UInt8} (h : nameB l = true) : l.length ≤ 8 := by
  unfold nameB at h
  simp only [Bool.and_eq_true, decide_eq_true_eq] at h
  exact h.2.2
theorem numO_eq {o : Od} (h : 0 ≤ o.cl ∧ o.cl ≤ 9 ∧ 1 ≤ o.sq ∧ o.sq ≤ 999) : numO o = 1000 * o.cl + o.sq := by
  unfold numO
  rw [IntWalk.wrap64_in _ ⟨by omega, by omega⟩]
theorem do_inv {b : Bk} (h : BkI b) {o : Od} (ho : o.ok) : BkI (doB b o) := by
  unfold doB
  by_cases hr : rightO o = true
  · rw [if_pos hr]
    obtain ⟨hk, hid, hnm, hper⟩ := right_kd hr
    have hsum : In64 o.sum := ho.2.2.2.2.2.1
    unfold effB
    by_cases k1 : o.kd = 1
    · rw [if_pos k1]; exact ⟨h.st.open _ _ hsum, h.cl⟩
    rw [if_neg k1]
    by_cases k2 : o.kd = 2
    · rw [if_pos k2]; split
      · exact h
      · exact ⟨h.st.post _, h.cl⟩
    rw [if_neg k2]
    by_cases k3 : o.kd = 3
    · rw [if_pos k3]
      refine ⟨h.st.put _ _ _ hsum.2 ?_, h.cl⟩
      rcases hnm with h1 | h1 | h1
      · omega
      · omega
      · exact name_len h1
    rw [if_neg k3]
    by_cases k4 : o.kd = 4
    · rw [if_pos k4]; split
      · exact h
      · exact ⟨h.st.take _ _ _ _, h.cl⟩
    rw [if_neg k4]
    by_cases k5 : o.kd = 5
    · rw [if_pos k5]; exact ⟨(h.st.free _ _).1, h.cl⟩
    rw [if_neg k5]
    by_cases k6 : o.kd = 6
    · rw [if_pos k6]; split
      · exact h
      · have := hper (.inr (.inr k6))
        exact ⟨h.st, by simp only; omega⟩
    rw [if_neg k6]
    exact h
  · rw [if_neg hr]; exact h
theorem fold_inv {b : Bk} (h : BkI b) : ∀ l : List Od, (∀ o ∈ l, o.ok) → BkI (foldB b l)
  | [], _ => h
  | o :: r, hl => fold_inv (do_inv h (hl o List.mem_cons_self)) r fun x hx => hl x (List.mem_cons_of_mem _ hx)
end Go.Proofs.YtjbeaoabhhaiiaaGreat

namespace Go.Proofs.YtjbeaoabhhaiiaaGreat
open Go.RowKit Go.My Go.Maps
set_option linter.unusedSimpArgs false
set_option linter.unusedVariables false

/-! ### lists that rise are told by what they hold -/
theorem pw_ext {α : Type} {R : α → α → Prop} (as_ : ∀ a b, R a b → ¬ R b a) : ∀ {l m : List α}, l.Pairwise R → m.Pairwise R → (∀ x, x ∈ l ↔ x ∈ m) → l = m
  | [], [], _, _, _ => rfl
  | [], c :: s, _, _, h => absurd ((h c).2 List.mem_cons_self) List.not_mem_nil
  | a :: r, [], _, _, h => absurd ((h a).1 List.mem_cons_self) List.not_mem_nil
  | a :: r, c :: s, hl, hm, h => by
    rw [List.pairwise_cons] at hl hm
    have e : a = c := by
      rcases List.mem_cons.1 ((h a).1 List.mem_cons_self) with e | h1
      · exact e
      · rcases List.mem_cons.1 ((h c).2 List.mem_cons_self) with e | h2
        · exact e.symm
        · exact absurd (hl.1 c h2) (as_ _ _ (hm.1 a h1))
    subst e
    have irr : ¬ R a a := fun k => as_ _ _ k k
    rw [pw_ext as_ hl.2 hm.2 fun x => ?_]
    constructor
    · intro hx
      rcases List.mem_cons.1 ((h x).1 (List.mem_cons_of_mem _ hx)) with e | h1
      · exact absurd (e ▸ hl.1 x hx) irr
      · exact h1
    · intro hx
      rcases List.mem_cons.1 ((h x).2 (List.mem_cons_of_mem _ hx)) with e | h1
      · exact absurd (e ▸ hm.1 x hx) irr
      · exact h1
theorem str_asymm {x y : List UInt8} (h : bytesBefore x y = true) : ¬ bytesBefore y x = true := fun k => by
  have h1 := before_lt _ _ h
  have h2 := before_lt _ _ k
  exact List.lt_irrefl x (List.lt_trans h1 h2)
theorem riseA_ext {S T : List Ac} (hS : Rise S) (hT : Rise T) (h : ∀ k, getA S k = getA T k) : S = T := by
  refine pw_ext (fun a b k1 k2 => str_asymm k1 k2) hS hT fun x => ?_
  constructor
  · intro hx
    have h1 := getA_mem hS hx
    rw [h] at h1
    exact (getA_some h1).1
  · intro hx
    have h1 := getA_mem hT hx
    rw [← h] at h1
    exact (getA_some h1).1
theorem riseH_ext {G H : List Hd} (hG : RiseH G) (hH : RiseH H) (h : ∀ k, ofH G k = ofH H k) : G = H := by
  refine pw_ext (fun a b k1 k2 => by have := hB_asymm k1; rw [k2] at this; cases this) hG hH fun x => ?_
  have e : ∀ (L : List Hd), x ∈ L ↔ x ∈ ofH L x.acct := fun L => by
    unfold ofH
    rw [List.mem_filter]
    simp
  rw [e G, e H, h]

/-! ### what a deed looks at, and what it changes -/
def AgS (T : List (List UInt8)) (S S' : List Ac) : Prop := ∀ k ∈ T, getA S k = getA S' k
def AgH (T : List (List UInt8)) (H H' : List Hd) : Prop := ∀ k ∈ T, ofH H k = ofH H' k
section
variable {f : Ac → Int} {g : Ac → Ac}
theorem act_loc {S S' : List Ac} {nm : List UInt8} (h : getA S nm = getA S' nm) : actE f S nm = actE f S' nm := by unfold actE; rw [h]
theorem act_far (hg : ∀ a, (g a).name = a.name) (S : List Ac) (nm : List UInt8) {k : List UInt8} (hk : k ≠ nm) : getA (actS f g S nm) k = getA S k := by
  unfold actS
  cases ha : getA S nm with
  | none => rfl
  | some a =>
    simp only
    split
    · exact getA_put_other S _ k (by rw [hg, (getA_some ha).2]; exact hk)
    · rfl
theorem act_at (hg : ∀ a, (g a).name = a.name) {S S' : List Ac} {nm : List UInt8} (h : getA S nm = getA S' nm) : getA (actS f g S nm) nm = getA (actS f g S' nm) nm := by
  unfold actS
  rw [← h]
  cases ha : getA S nm with
  | none => simp only; rw [ha, ← h, ha]
  | some a =>
    have hn : (g a).name = nm := by rw [hg, (getA_some ha).2]
    simp only
    split
    · have h1 := getA_put_same S (g a)
      have h2 := getA_put_same S' (g a)
      rw [hn] at h1 h2
      rw [h1, h2]
    · rw [ha, ← h, ha]
theorem act_cong (hg : ∀ a, (g a).name = a.name) {T : List (List UInt8)} {S S' : List Ac} {nm : List UInt8} (h : AgS T S S') (hm : nm ∈ T) : AgS T (actS f g S nm) (actS f g S' nm) := fun k hk => by
  by_cases e : k = nm
  · rw [e]
    exact act_at hg (h nm hm)
  · rw [act_far hg S nm e, act_far hg S' nm e]
    exact h k hk
theorem act_len (hg : ∀ a, (g a).name = a.name) {S : List Ac} (hr : Rise S) (nm : List UInt8) : (actS f g S nm).length = S.length := by
  unfold actS
  cases ha : getA S nm with
  | none => rfl
  | some a =>
    simp only
    split
    · rw [length_put _ _ hr, hg, (getA_some ha).2, ha]
      rfl
    · rfl
end
theorem giveN (x : Int) (a : Ac) : (giveA a x).name = a.name := by unfold giveA; split <;> rfl
theorem asdN (x : Int) (a : Ac) : (asideA a x).name = a.name := by unfold asideA; split <;> rfl
theorem asd_loc {S S' : List Ac} {nm : List UInt8} {x : Int} (h : getA S nm = getA S' nm) : asdE S nm x = asdE S' nm x := act_loc h
theorem asd_cong {T : List (List UInt8)} {S S' : List Ac} {nm : List UInt8} {x : Int} (h : AgS T S S') (hm : nm ∈ T) : AgS T (asdS S nm x) (asdS S' nm x) := act_cong (asdN x) h hm
theorem asd_far (S : List Ac) (nm : List UInt8) (x : Int) {k : List UInt8} (hk : k ≠ nm) : getA (asdS S nm x) k = getA S k := act_far (asdN x) S nm hk
theorem asd_len {S : List Ac} (hr : Rise S) (nm : List UInt8) (x : Int) : (asdS S nm x).length = S.length := act_len (asdN x) hr nm
theorem leg_cong {T : List (List UInt8)} {S S' : List Ac} {g : Lg} (h : AgS T S S') (hm : g.nm ∈ T) : AgS T (legS S g) (legS S' g) := by
  unfold legS
  rw [leg_same g (h _ hm)]
  split
  · exact act_cong (giveN _) h hm
  · exact h
theorem legs_cong {T : List (List UInt8)} : ∀ (L : List Lg) {S S' : List Ac}, AgS T S S' → (∀ g ∈ L, g.nm ∈ T) → legsE S L = legsE S' L ∧ AgS T (legsS S L) (legsS S' L)
  | [], S, S', h, _ => ⟨rfl, h⟩
  | g :: r, S, S', h, hm => by
    unfold legsE legsS
    rw [leg_same g (h _ (hm g List.mem_cons_self))]
    split
    · exact legs_cong r (leg_cong h (hm g List.mem_cons_self)) fun x hx => hm x (List.mem_cons_of_mem _ hx)
    · exact ⟨rfl, h⟩
theorem legs_far : ∀ (L : List Lg) (S : List Ac) {k : List UInt8}, (∀ g ∈ L, g.nm ≠ k) → getA (legsS S L) k = getA S k
  | [], S, k, _ => rfl
  | g :: r, S, k, h => by
    unfold legsS
    split
    · rw [legs_far r _ fun x hx => h x (List.mem_cons_of_mem _ hx), leg_other S g k (fun e => h g List.mem_cons_self e.symm)]
    · rfl
theorem legs_len : ∀ (L : List Lg) {S : List Ac}, Inv S → (legsS S L).length = S.length
  | [], S, _ => rfl
  | g :: r, S, h => by
    unfold legsS
    split
    · rw [legs_len r (inv_leg h g)]
      unfold legS
      split
      all_goals first | exact act_len (giveN _) h.rise _ | rfl
    · rfl
theorem make_cong {T : List (List UInt8)} {L : List Lg} {S S' : List Ac} (h : AgS T S S') (hm : ∀ g ∈ L, g.nm ∈ T) : checkE S L = checkE S' L ∧ AgS T (makeS S L) (makeS S' L) := by
  obtain ⟨h1, h2⟩ := legs_cong L h hm
  have hc : checkE S L = checkE S' L := by unfold checkE; rw [h1]
  refine ⟨hc, ?_⟩
  unfold makeS
  rw [hc]
  split
  · exact h2
  · exact h
theorem make_far {L : List Lg} {S : List Ac} {k : List UInt8} (h : ∀ g ∈ L, g.nm ≠ k) : getA (makeS S L) k = getA S k := by
  unfold makeS
  split
  · exact legs_far L S h
  · rfl
theorem make_len {L : List Lg} {S : List Ac} (h : Inv S) : (makeS S L).length = S.length := by
  unfold makeS
  split
  · exact legs_len L h
  · rfl
theorem open_cong {T : List (List UInt8)} {S S' : List Ac} {nm : List UInt8} {lim : Int} (h : AgS T S S') (hm : nm ∈ T) (hl : S.length = S'.length) : openE S nm lim = openE S' nm lim ∧ AgS T (openS S nm lim) (openS S' nm lim) := by
  have he : openE S nm lim = openE S' nm lim := by unfold openE; rw [h nm hm, hl]
  refine ⟨he, ?_⟩
  unfold openS
  rw [he]
  split
  · intro k hk
    by_cases e : k = nm
    · have h1 := getA_put_same S ⟨nm, 0, 0, lim⟩
      have h2 := getA_put_same S' ⟨nm, 0, 0, lim⟩
      simp only at h1 h2
      rw [e, h1, h2]
    · rw [getA_put_other S _ k e, getA_put_other S' _ k e]
      exact h k hk
  · exact h
theorem open_far (S : List Ac) (nm : List UInt8) (lim : Int) {k : List UInt8} (hk : k ≠ nm) : getA (openS S nm lim) k = getA S k := by
  unfold openS
  split
  · exact getA_put_other S _ k hk
  · rfl

/-! ### holds -/
theorem getH_of (H : List Hd) (a : List UInt8) (n : Int) : getH H a n = getH (ofH H a) a n := by
  unfold getH ofH
  rw [List.find?_filter]
  congr 1
  funext h
  unfold Hd.at
  cases h.acct == a <;> cases h.num == n <;> rfl
theorem getH_loc {H H' : List Hd} {a : List UInt8} (h : ofH H a = ofH H' a) (n : Int) : getH H a n = getH H' a n := by rw [getH_of H, getH_of H', h]
theorem ofH_ins_far (x : Hd) (H : List Hd) {k : List UInt8} (hk : k ≠ x.acct) : ofH (insH x H) k = ofH H k := by
  unfold ofH
  have hx : (x.acct == k) = false := beq_eq_false_iff_ne.2 fun e => hk e.symm
  induction H with
  | nil => simp [insH, hx]
  | cons b r ih =>
    unfold insH
    split
    · rw [List.filter_cons, hx]; rfl
    · rw [List.filter_cons, List.filter_cons, ih]
theorem ofH_ins_at (x : Hd) {H H' : List Hd} (hr : RiseH H) (hr' : RiseH H') (hn : getH H x.acct x.num = none) (h : ofH H x.acct = ofH H' x.acct) : ofH (insH x H) x.acct = ofH (insH x H') x.acct := by
  have hn' : getH H' x.acct x.num = none := by rw [← getH_loc h]; exact hn
  refine rise_perm_eq ?_ (rise_filter (rise_insH x H hr hn) _) (rise_filter (rise_insH x H' hr' hn') _)
  have p1 : (ofH (insH x H) x.acct).Perm (ofH (x :: H) x.acct) := (perm_insH x H).filter _
  have p2 : (ofH (insH x H') x.acct).Perm (ofH (x :: H') x.acct) := (perm_insH x H').filter _
  refine p1.trans (List.Perm.trans ?_ p2.symm)
  have e : ofH (x :: H) x.acct = x :: ofH H x.acct := by unfold ofH; rw [List.filter_cons]; simp
  have e' : ofH (x :: H') x.acct = x :: ofH H' x.acct := by unfold ofH; rw [List.filter_cons]; simp
  rw [e, e', h]
theorem ofH_del (H : List Hd) (a : List UInt8) (n : Int) (k : List UInt8) : ofH (delH H a n) k = (ofH H k).filter fun h => !h.at a n := by
  unfold ofH delH
  rw [List.filter_filter, List.filter_filter]
  congr 1
  funext h
  exact Bool.and_comm _ _
theorem ofH_del_far (H : List Hd) (a : List UInt8) (n : Int) {k : List UInt8} (hk : k ≠ a) : ofH (delH H a n) k = ofH H k := by
  rw [ofH_del, List.filter_eq_self]
  intro h hh
  unfold ofH at hh
  have h1 : h.acct = k := by simpa using (List.mem_filter.1 hh).2
  unfold Hd.at
  have : (h.acct == a) = false := beq_eq_false_iff_ne.2 (by rw [h1]; exact hk)
  rw [this]
  rfl
theorem put_loc {S S' : List Ac} {H H' : List Hd} {n x : Int} {a : List UInt8} (hs : getA S a = getA S' a) (hh : ofH H a = ofH H' a) : putE S H n a x = putE S' H' n a x := by
  unfold putE
  rw [getH_loc hh, hh, asd_loc hs]
theorem put_cong {T : List (List UInt8)} {S S' : List Ac} {H H' : List Hd} {n x : Int} {a : List UInt8} (hs : AgS T S S') (hh : AgH T H H') (hm : a ∈ T) (hr : RiseH H) (hr' : RiseH H') :
    AgS T (putSS S H n a x) (putSS S' H' n a x) ∧ AgH T (putHH S H n a x) (putHH S' H' n a x) := by
  have he : putE S H n a x = putE S' H' n a x := put_loc (hs a hm) (hh a hm)
  unfold putSS putHH
  by_cases h0 : putE S H n a x = 0
  · rw [if_pos h0, if_pos h0, ← he, if_pos h0, if_pos h0]
    refine ⟨asd_cong hs hm, fun k hk => ?_⟩
    by_cases e : k = a
    · subst e
      exact ofH_ins_at ⟨n, k, x⟩ hr hr' (put_zero h0).2.2.2.1 (hh k hk)
    · rw [ofH_ins_far _ _ e, ofH_ins_far _ _ e]
      exact hh k hk
  · rw [if_neg h0, if_neg h0, ← he, if_neg h0, if_neg h0]
    exact ⟨hs, hh⟩
theorem free_cong {T : List (List UInt8)} {S S' : List Ac} {H H' : List Hd} {n : Int} {a : List UInt8} (hs : AgS T S S') (hh : AgH T H H') (hm : a ∈ T) :
    freeE S H a n = freeE S' H' a n ∧ AgS T (freeSS S H a n) (freeSS S' H' a n) ∧ AgH T (freeHH S H a n) (freeHH S' H' a n) := by
  have hg := getH_loc (hh a hm) n
  have he : freeE S H a n = freeE S' H' a n := by
    unfold freeE
    rw [hg]
    cases getH H' a n with
    | none => rfl
    | some h => exact asd_loc (hs a hm)
  refine ⟨he, ?_, ?_⟩
  · unfold freeSS
    rw [hg]
    cases getH H' a n with
    | none => exact hs
    | some h => exact asd_cong hs hm
  · unfold freeHH
    rw [he]
    split
    · intro k hk
      rw [ofH_del, ofH_del, hh k hk]
    · exact hh
theorem take_cong {T : List (List UInt8)} {S S' : List Ac} {H H' : List Hd} {n x : Int} {a b : ByteArray} (hs : AgS T S S') (hh : AgH T H H') (hm : a.data.toList ∈ T) (hb : b.data.toList ∈ T) :
    takeE S H a n b x = takeE S' H' a n b x ∧ AgS T (takeSS S H a n b x) (takeSS S' H' a n b x) ∧ AgH T (takeHH S H a n b x) (takeHH S' H' a n b x) := by
  have hg := getH_loc (hh _ hm) n
  have hleg : ∀ g ∈ legsT a b x, g.nm ∈ T := fun g hg => by
    unfold legsT at hg
    simp only [List.mem_cons, List.not_mem_nil, or_false] at hg
    rcases hg with rfl | rfl
    · exact hm
    · exact hb
  have he : takeE S H a n b x = takeE S' H' a n b x := by
    unfold takeE
    rw [hg]
    cases getH H' a.data.toList n with
    | none => rfl
    | some h =>
      simp only
      rw [asd_loc (hs _ hm), (make_cong (asd_cong (x := -h.sum) hs hm) hleg).1]
  refine ⟨he, ?_, ?_⟩
  · unfold takeSS
    rw [he, hg]
    split
    · exact (make_cong (asd_cong hs hm) hleg).2
    · exact hs
  · unfold takeHH
    rw [he]
    split
    · intro k hk
      rw [ofH_del, ofH_del, hh k hk]
    · exact hh
end Go.Proofs.YtjbeaoabhhaiiaaGreat

namespace Go.Proofs
open Go.Shelf
def Tryz.delS_ren : Go.Shelf.Ren := ⟨fun | 10 => 46 | 6 => 72 | n => n, fun | 22 => 59 | 23 => 9 | 25 => 82 | 3 => 3 | 4 => 4 | 0 => 0 | n => n, fun | n => n⟩
theorem Tryz.delS : Go.Proofs.SlLaysH.n10 Tryz.prog Tryz.delS_ren := {
  mixed := by kernel_rfl
  f6 := ⟨Tryz.f72.name, by decide, Tryz.func72.trans (congrArg some (by kernel_rfl))⟩
  f10 := ⟨Tryz.f46.name, by decide, Tryz.func46.trans (congrArg some (by kernel_rfl))⟩
  t0 := Tryz.underlying0
  a0 := Tryz.isAgg0
  z0 := Tryz.sizeOf0
  v0 := Tryz.zeroValue0
  t3 := Tryz.underlying3
  a3 := Tryz.isAgg3
  z3 := Tryz.sizeOf3
  v3 := Tryz.zeroValue3
  t4 := Tryz.underlying4
  a4 := Tryz.isAgg4
  z4 := Tryz.sizeOf4
  v4 := Tryz.zeroValue4
  t22 := Tryz.underlying59
  a22 := Tryz.isAgg59
  z22 := Tryz.sizeOf59
  v22 := Tryz.zeroValue59
  a23 := Tryz.isAgg9
  z23 := Tryz.sizeOf9
  t25 := Tryz.underlying82
  a25 := Tryz.isAgg82
  z25 := Tryz.sizeOf82
  v25 := Tryz.zeroValue82 }
def Tryz.sortS_ren : Go.Shelf.Ren := ⟨fun | 6 => 48 | 8 => 74 | 9 => 73 | 19 => 119 | 20 => 120 | 21 => 110 | 22 => 111 | 23 => 112 | 24 => 113 | 25 => 114 | 26 => 115 | 27 => 116 | 28 => 117 | 29 => 118 | 36 => 141 | 31 => 142 | 32 => 143 | 37 => 144 | 38 => 145 | 39 => 146 | 41 => 164 | n => n, fun | 27 => 59 | 29 => 9 | 3 => 3 | 32 => 38 | 26 => 59 | 0 => 0 | 44 => 181 | 46 => 183 | 4 => 4 | 36 => 174 | 35 => 173 | 41 => 178 | 5 => 5 | 9 => 9 | 53 => 200 | 57 => 204 | 63 => 219 | 64 => 220 | n => n, fun | n => n⟩
theorem Tryz.sortS : Go.Proofs.SlLaysM.n6 Tryz.prog Tryz.sortS_ren := {
  mixed := by kernel_rfl
  f6 := ⟨Tryz.f48.name, by decide, Tryz.func48.trans (congrArg some (by kernel_rfl))⟩
  f8 := Tryz.func74.trans (congrArg some (by kernel_rfl))
  f9 := ⟨Tryz.f73.name, by decide, Tryz.func73.trans (congrArg some (by kernel_rfl))⟩
  f19 := Tryz.func119.trans (congrArg some (by kernel_rfl))
  f20 := Tryz.func120.trans (congrArg some (by kernel_rfl))
  f21 := ⟨Tryz.f110.name, by decide, Tryz.func110.trans (congrArg some (by kernel_rfl))⟩
  f22 := ⟨Tryz.f111.name, by decide, Tryz.func111.trans (congrArg some (by kernel_rfl))⟩
  f23 := ⟨Tryz.f112.name, by decide, Tryz.func112.trans (congrArg some (by kernel_rfl))⟩
  f24 := ⟨Tryz.f113.name, by decide, Tryz.func113.trans (congrArg some (by kernel_rfl))⟩
  f25 := ⟨Tryz.f114.name, by decide, Tryz.func114.trans (congrArg some (by kernel_rfl))⟩
  f26 := ⟨Tryz.f115.name, by decide, Tryz.func115.trans (congrArg some (by kernel_rfl))⟩
  f27 := ⟨Tryz.f116.name, by decide, Tryz.func116.trans (congrArg some (by kernel_rfl))⟩
  f28 := ⟨Tryz.f117.name, by decide, Tryz.func117.trans (congrArg some (by kernel_rfl))⟩
  f29 := ⟨Tryz.f118.name, by decide, Tryz.func118.trans (congrArg some (by kernel_rfl))⟩
  f31 := Tryz.func142.trans (congrArg some (by kernel_rfl))
  f32 := Tryz.func143.trans (congrArg some (by kernel_rfl))
  f36 := ⟨Tryz.f141.name, by decide, Tryz.func141.trans (congrArg some (by kernel_rfl))⟩
  f37 := ⟨Tryz.f144.name, by decide, Tryz.func144.trans (congrArg some (by kernel_rfl))⟩
  f38 := ⟨Tryz.f145.name, by decide, Tryz.func145.trans (congrArg some (by kernel_rfl))⟩
  f39 := ⟨Tryz.f146.name, by decide, Tryz.func146.trans (congrArg some (by kernel_rfl))⟩
  f41 := ⟨Tryz.f164.name, by decide, Tryz.func164.trans (congrArg some (by kernel_rfl))⟩
  t0 := Tryz.underlying0
  a0 := Tryz.isAgg0
  z0 := Tryz.sizeOf0
  v0 := Tryz.zeroValue0
  t3 := Tryz.underlying3
  a3 := Tryz.isAgg3
  z3 := Tryz.sizeOf3
  v3 := Tryz.zeroValue3
  t4 := Tryz.underlying4
  a4 := Tryz.isAgg4
  z4 := Tryz.sizeOf4
  v4 := Tryz.zeroValue4
  t5 := Tryz.underlying5
  a5 := Tryz.isAgg5
  z5 := Tryz.sizeOf5
  v5 := Tryz.zeroValue5
  t9 := Tryz.underlying9
  a9 := Tryz.isAgg9
  z9 := Tryz.sizeOf9
  v9 := Tryz.zeroValue9
  t26 := Tryz.underlying59
  a26 := Tryz.isAgg59
  z26 := Tryz.sizeOf59
  v26 := Tryz.zeroValue59
  t27 := Tryz.underlying59
  a27 := Tryz.isAgg59
  z27 := Tryz.sizeOf59
  v27 := Tryz.zeroValue59
  t29 := Tryz.underlying9
  a29 := Tryz.isAgg9
  z29 := Tryz.sizeOf9
  v29 := Tryz.zeroValue9
  t32 := Tryz.underlying38
  a32 := Tryz.isAgg38
  z32 := Tryz.sizeOf38
  v32 := Tryz.zeroValue38
  t35 := Tryz.underlying173
  a35 := Tryz.isAgg173
  z35 := Tryz.sizeOf173
  v35 := Tryz.zeroValue173
  t36 := Tryz.underlying174
  a36 := Tryz.isAgg174
  z36 := Tryz.sizeOf174
  v36 := Tryz.zeroValue174
  t41 := Tryz.underlying178
  a41 := Tryz.isAgg178
  z41 := Tryz.sizeOf178
  v41 := Tryz.zeroValue178
  t44 := Tryz.underlying181
  a44 := Tryz.isAgg181
  z44 := Tryz.sizeOf181
  v44 := Tryz.zeroValue181
  t46 := Tryz.underlying183
  a46 := Tryz.isAgg183
  z46 := Tryz.sizeOf183
  v46 := Tryz.zeroValue183
  t53 := Tryz.underlying200
  a53 := Tryz.isAgg200
  z53 := Tryz.sizeOf200
  v53 := Tryz.zeroValue200
  t57 := Tryz.underlying204
  a57 := Tryz.isAgg204
  z57 := Tryz.sizeOf204
  v57 := Tryz.zeroValue204
  t63 := Tryz.underlying219
  a63 := Tryz.isAgg219
  z63 := Tryz.sizeOf219
  v63 := Tryz.zeroValue219
  t64 := Tryz.underlying220
  a64 := Tryz.isAgg220
  z64 := Tryz.sizeOf220
  v64 := Tryz.zeroValue220 }
def Tryz.compS_ren : Go.Shelf.Ren := ⟨fun | 43 => 49 | n => n, fun | 22 => 59 | 23 => 9 | 3 => 3 | 4 => 4 | 0 => 0 | n => n, fun | n => n⟩
theorem Tryz.compS : Go.Proofs.SlLaysE.n43 Tryz.prog Tryz.compS_ren := {
  mixed := by kernel_rfl
  f43 := ⟨Tryz.f49.name, by decide, Tryz.func49.trans (congrArg some (by kernel_rfl))⟩
  t0 := Tryz.underlying0
  a0 := Tryz.isAgg0
  z0 := Tryz.sizeOf0
  v0 := Tryz.zeroValue0
  t3 := Tryz.underlying3
  a3 := Tryz.isAgg3
  z3 := Tryz.sizeOf3
  v3 := Tryz.zeroValue3
  t4 := Tryz.underlying4
  a4 := Tryz.isAgg4
  z4 := Tryz.sizeOf4
  v4 := Tryz.zeroValue4
  t22 := Tryz.underlying59
  a22 := Tryz.isAgg59
  z22 := Tryz.sizeOf59
  v22 := Tryz.zeroValue59
  a23 := Tryz.isAgg9
  z23 := Tryz.sizeOf9 }
end Go.Proofs

set_option linter.unusedSimpArgs false
set_option linter.unusedVariables false
namespace Go.My
open Go Go.RowKit Go.Sort Go.Lib Go.Proofs

/-- in order, each once -/
def Up (l : List (List UInt8)) : Prop := l.Pairwise (· < ·)
theorem str_irrefl (a : List UInt8) : ¬ a < a := List.lt_irrefl a
theorem str_trans {a b c : List UInt8} (h : a < b) (k : b < c) : a < c := List.lt_trans h k
theorem str_le_ne {a b : List UInt8} (h : a ≤ b) (hn : a ≠ b) : a < b := by
  rcases Decidable.em (a < b) with h1 | h1
  · exact h1
  · exact absurd (List.le_antisymm h (List.not_lt.1 h1)) hn
theorem str_le_lt {a b c : List UInt8} (h : a ≤ b) (k : b < c) : a < c := by
  by_cases e : a = b
  · subst e; exact k
  · exact str_trans (str_le_ne h e) k
theorem up_ext : ∀ {a b : List (List UInt8)}, Up a → Up b → (∀ s, s ∈ a ↔ s ∈ b) → a = b
  | [], [], _, _, _ => rfl
  | [], y :: b, _, _, h => by have := (h y).2 List.mem_cons_self; cases this
  | x :: a, [], _, _, h => by have := (h x).1 List.mem_cons_self; cases this
  | x :: a, y :: b, ha, hb, h => by
    obtain ⟨h1, h2⟩ := List.pairwise_cons.1 ha
    obtain ⟨k1, k2⟩ := List.pairwise_cons.1 hb
    have e : x = y := by
      rcases List.mem_cons.1 ((h x).1 List.mem_cons_self) with e | hx
      · exact e
      · rcases List.mem_cons.1 ((h y).2 List.mem_cons_self) with e | hy
        · exact e.symm
        · exact absurd (str_trans (h1 y hy) (k1 x hx)) (str_irrefl x)
    subst e
    congr 1
    refine up_ext h2 k2 fun s => ⟨fun hs => ?_, fun hs => ?_⟩
    · rcases List.mem_cons.1 ((h s).1 (List.mem_cons_of_mem _ hs)) with e | hx
      · subst e; exact absurd (h1 s hs) (str_irrefl s)
      · exact hx
    · rcases List.mem_cons.1 ((h s).2 (List.mem_cons_of_mem _ hs)) with e | hx
      · subst e; exact absurd (k1 s hs) (str_irrefl s)
      · exact hx
theorem compact_up (d : Array (List UInt8)) (hd : ∀ i j, i < j → j < d.size → d[i]! ≤ d[j]!) : ∀ m, m ≤ d.size → Up (compactUpTo d m) ∧ ∀ s, s ∈ compactUpTo d m ↔ ∃ j, j < m ∧ d[j]! = s
  | 0, _ => by
    refine ⟨List.Pairwise.nil, fun s => ?_⟩
    simp [compactUpTo]
  | m + 1, hm => by
    obtain ⟨h1, h2⟩ := compact_up d hd m (by omega)
    rw [compactUpTo_succ]
    cases hk : keeps d m with
    | false =>
      simp only [Bool.false_eq_true, if_false, List.append_nil]
      refine ⟨h1, fun s => ?_⟩
      rw [h2 s]
      unfold keeps at hk
      rw [decide_eq_false_iff_not] at hk
      have hm0 : m ≠ 0 := fun e => hk (.inl e)
      have he : d[m]! = d[m - 1]! := Decidable.byContradiction fun e => hk (.inr e)
      constructor
      · rintro ⟨j, hj, e⟩
        exact ⟨j, by omega, e⟩
      · rintro ⟨j, hj, e⟩
        by_cases hjm : j = m
        · subst hjm
          exact ⟨j - 1, by omega, by rw [← he]; exact e⟩
        · exact ⟨j, by omega, e⟩
    | true =>
      simp only [if_true]
      unfold keeps at hk
      rw [decide_eq_true_eq] at hk
      constructor
      · unfold Up
        rw [List.pairwise_append]
        refine ⟨h1, by simp, fun a ha b hb => ?_⟩
        rw [List.mem_singleton] at hb
        subst hb
        obtain ⟨j, hj, rfl⟩ := (h2 a).1 ha
        rcases hk with h0 | hne
        · omega
        · have hlt := str_le_ne (hd (m - 1) m (by omega) (by omega)) (fun e => hne e.symm)
          by_cases e : j = m - 1
          · subst e; exact hlt
          · exact str_le_lt (hd j (m - 1) (by omega) (by omega)) hlt
      · intro s
        rw [List.mem_append, List.mem_singleton, h2 s]
        constructor
        · rintro (⟨j, hj, e⟩ | e)
          · exact ⟨j, by omega, e⟩
          · exact ⟨m, by omega, e.symm⟩
        · rintro ⟨j, hj, e⟩
          by_cases hjm : j = m
          · subst hjm; exact .inr e.symm
          · exact .inl ⟨j, by omega, e⟩
/-- sorted, and each once -/
def upOf (l : List (List UInt8)) : List (List UInt8) := compact (l.mergeSort fun x y => decide (x ≤ y))
theorem upOf_spec (l : List (List UInt8)) : Up (upOf l) ∧ ∀ s, s ∈ upOf l ↔ s ∈ l := by
  have hp := List.pairwise_mergeSort (le := fun x y : List UInt8 => decide (x ≤ y)) (fun a b c h k => by
    simp only [decide_eq_true_eq] at h k ⊢
    exact List.le_trans h k) (fun a b => by
    rcases List.le_total a b with h | h
    · simp [h]
    · simp [h]) l
  have hm : ∀ s, s ∈ l.mergeSort (fun x y => decide (x ≤ y)) ↔ s ∈ l := fun s => List.mem_mergeSort
  unfold upOf
  generalize l.mergeSort (fun x y => decide (x ≤ y)) = t at hp hm ⊢
  have h := compact_up t.toArray (fun i j hij hj => by
    have hj' : j < t.length := by simpa using hj
    have h1 := List.pairwise_iff_getElem.1 hp i j (by omega) hj' hij
    rw [getElem!_pos t.toArray i (by simp; omega), getElem!_pos t.toArray j (by simpa using hj')]
    simpa using h1) t.length (by simp)
  unfold compact
  refine ⟨h.1, fun s => ?_⟩
  rw [h.2 s, ← hm s, List.mem_iff_getElem]
  constructor
  · rintro ⟨j, hj, e⟩
    refine ⟨j, hj, ?_⟩
    rw [getElem!_pos t.toArray j (by simpa using hj)] at e
    simpa using e
  · rintro ⟨j, hj, e⟩
    refine ⟨j, hj, ?_⟩
    rw [getElem!_pos t.toArray j (by simpa using hj)]
    simpa using e
/-- sorted, each once, and the same texts: one -/
theorem upOf_eq {l t : List (List UInt8)} (h : Up t) (hm : ∀ s, s ∈ t ↔ s ∈ l) : t = upOf l :=
  up_ext h (upOf_spec l).1 fun s => (hm s).trans ((upOf_spec l).2 s).symm
theorem upOf_length (l : List (List UInt8)) : (upOf l).length ≤ l.length := by
  have := compact_length_le (l.mergeSort fun x y => decide (x ≤ y))
  rw [List.length_mergeSort] at this
  exact this

/-! ### rows of texts -/
def ts (l : List (List UInt8)) : List Value := l.map encStr
theorem ts_length (l : List (List UInt8)) : (ts l).length = l.length := by simp [ts]
theorem ts_append (l r : List (List UInt8)) : ts (l ++ r) = ts l ++ ts r := by simp [ts]
theorem ts_one (l : List (List UInt8)) : ∀ u ∈ ts l, u.oneCell' = true := by
  intro u hu
  simp only [ts, List.mem_map] at hu
  obtain ⟨b, _, rfl⟩ := hu
  rfl
theorem ts_get (l : List (List UInt8)) (k : Nat) (h : k < l.length) : (ts l)[k]? = some (encStr l[k]) := by simp [ts, h]
/-- the cells of a block where a row has been laid at its head -/
theorem take_putS (F : Array (List UInt8)) (cur : Array Value) (k : Nat) (hk : k ≤ F.size) (hl : F.size ≤ cur.size) : (putCells encStr 0 F cur).toList.take k = ts (F.toList.take k) := by
  apply List.ext_getElem?
  intro t
  rw [List.getElem?_take]
  unfold ts
  rw [List.getElem?_map, List.getElem?_take]
  by_cases h : t < k
  · rw [if_pos h, if_pos h]
    unfold putCells
    simp only [Array.getElem?_toList, Array.getElem?_mapIdx]
    rw [Array.getElem?_eq_getElem (by omega), Array.getElem?_eq_getElem (by omega)]
    simp only [Option.map_some]
    rw [if_pos ⟨by omega, by omega⟩, getElem!_pos F (t - 0) (by omega)]
    simp
  · rw [if_neg h, if_neg h]
    rfl
theorem own_holds {w : World} {t : TypeId} {g n cap : Nat} {L : List (List UInt8)} (h : Own w t 1 (.slice (some ⟨g, 0, none⟩) n cap) n (ts L)) : Holds encStr w g 0 L.toArray ∧ g < w.heap.size ∧ L.length = n ∧ n ≤ cap := by
  have hlen : L.length = n := by have := h.1; rw [ts_length] at this; omega
  rcases h.2 with ⟨h0, _⟩ | ⟨g', cap', cur, hv, hg, hle, hm, hs, ht⟩
  · cases h0
  · injection hv with hA hn hc
    injection hA with hA
    injection hA with hA
    subst hA hc
    refine ⟨fun j hj => ?_, (Array.getElem?_eq_some_iff.1 hg).1, hlen, hle⟩
    have hj' : j < L.length := by simpa using hj
    rw [Nat.zero_add, cell_of_row w g j cur _ _ hg, getElem!_pos L.toArray j hj]
    constructor
    · have : (cur.toList.take (n * 1))[j]? = (ts L)[j]? := by rw [ht]
      rw [List.getElem?_take, if_pos (by omega), Array.getElem?_toList, ts_get L j hj'] at this
      simpa using this
    · exact Blk.frozen (t := t) (cs := cur) hg j
theorem own_put {w : World} {t : TypeId} {g n cap : Nat} {L : List (List UInt8)} (h : Own w t 1 (.slice (some ⟨g, 0, none⟩) n cap) n (ts L)) (q : Nat) (os : Array Obj) (F : Array (List UInt8)) (hF : F.size = n) (k : Nat) (hk : k ≤ n) :
    Own (grow (putRow encStr (Sort.ahead w q) g 0 F) os) t 1 (.slice (some ⟨g, 0, none⟩) k cap) k (ts (F.toList.take k)) ∧ Fr (At1 g) w (grow (putRow encStr (Sort.ahead w q) g 0 F) os) := by
  rcases h.2 with ⟨h0, _⟩ | ⟨g', cap', cur, hv, hg, hle, hm, hs, ht⟩
  · cases h0
  · injection hv with hA hn hc
    injection hA with hA
    injection hA with hA
    subst hA hc
    have hlt := (Array.getElem?_eq_some_iff.1 hg).1
    have hheap : (grow (putRow encStr (Sort.ahead w q) g 0 F) os).heap[g]? = some (.cells (putCells encStr 0 F cur) t (0, 0)) := by
      unfold putRow
      rw [heap_grow_old _ _ (by show g < (w.heap.modify g _).size; simpa using hlt)]
      show (w.heap.modify g _)[g]? = _
      rw [Array.getElem?_modify, if_pos rfl, hg]
      rfl
    constructor
    · refine ⟨by rw [ts_length, List.length_take, Array.length_toList]; omega, .inr ⟨g, cap, _, rfl, hheap, by omega, hm, ?_, ?_⟩⟩
      · unfold putCells
        simpa using hs
      · rw [Nat.mul_one]
        exact take_putS F cur k (by omega) (by omega)
    · refine ⟨rfl, rfl, rfl, ?_, fun i hi hn => ?_⟩
      · show w.heap.size ≤ ((w.heap.modify g _) ++ os).size
        simp
      · unfold putRow
        rw [heap_grow_old _ _ (by show i < (w.heap.modify g _).size; simpa using hi)]
        show (w.heap.modify g _)[i]? = _
        rw [Array.getElem?_modify, if_neg (fun e : g = i => hn e.symm)]
end Go.My
namespace Go.Proofs.YtjbeaoabhhaiiaaGreat
open Go.RowKit Go.My Go.Maps Go.Sort Go.Lib
set_option linter.unusedSimpArgs false
set_option linter.unusedVariables false

theorem oneS : OneCell encStr := fun _ => rfl
theorem eqS (T : TypeId) : EqlAt Tryz.prog T encStr (fun x y => decide (x = y)) := by
  have h := EqlAt.string Tryz.prog T
  refine ⟨fun x y w => ?_, fun op a b x y w => h.2 op a b ⟨x.toArray⟩ ⟨y.toArray⟩ w⟩
  have e := h.1 ⟨x.toArray⟩ ⟨y.toArray⟩ w
  have e1 : ((⟨x.toArray⟩ : ByteArray).toList == (⟨y.toArray⟩ : ByteArray).toList) = decide (x = y) := by
    rw [ByteArray.toList_eq, ByteArray.toList_eq]
    show (x == y) = _
    by_cases hxy : x = y
    · subst hxy; simp
    · rw [decide_eq_false hxy]; exact beq_eq_false_iff_ne.2 hxy
  simp only [e1] at e
  exact e
theorem neS (T : TypeId) : NeqAt Tryz.prog T encStr (fun x y => decide (x = y)) := by
  have h := NeqAt.string Tryz.prog T
  refine ⟨fun x y w => ?_, fun op a b x y w => h.2 op a b ⟨x.toArray⟩ ⟨y.toArray⟩ w⟩
  have e := h.1 ⟨x.toArray⟩ ⟨y.toArray⟩ w
  have e1 : ((⟨x.toArray⟩ : ByteArray).toList == (⟨y.toArray⟩ : ByteArray).toList) = decide (x = y) := by
    rw [ByteArray.toList_eq, ByteArray.toList_eq]
    show (x == y) = _
    by_cases hxy : x = y
    · subst hxy; simp
    · rw [decide_eq_false hxy]; exact beq_eq_false_iff_ne.2 hxy
  simp only [e1] at e
  exact e
/-- handed back: the row at g, of k texts -/
def RetS (w : World) (g cap : Nat) (e : Ending) (L : List (List UInt8)) (w' : World) : Prop :=
  e = .returned (.slice (some ⟨g, 0, none⟩) L.length cap) ∧ Own w' 9 1 (.slice (some ⟨g, 0, none⟩) L.length cap) L.length (ts L) ∧ Fr (At1 g) w w'

theorem delS_any (f : FuncId) (p : List UInt8 → Bool) (L : List (List UInt8)) (g cap : Nat) (w : World) (h : Own w 9 1 (.slice (some ⟨g, 0, none⟩) L.length cap) L.length (ts L)) (hl : L.length ≤ 1000000)
    (eg : ∀ args w, (callFunc f args).run Tryz.prog w = .ok (.enter f args) w) (hf : ∀ (W : World) (x : List UInt8), FnGives Tryz.prog f #[] #[encStr x] (.bool (p x)) W) :
    Calls Tryz.prog 46 #[.slice (some ⟨g, 0, none⟩) L.length cap, .func (.func f) #[] #[]] w fun e w' => RetS w g cap e (L.filter fun x => !p x) w' := by
  obtain ⟨hH, hlt, hlen, hcap⟩ := own_holds h
  have hcon := AnyE.slices_DeleteFunc Tryz.delS encStr oneS p f #[] eg [] Tryz.zeroValue9 g 0 cap L.toArray w (fun W x _ => hf W x) (fun n os dk x _ => hf _ x) hH (by simp; omega) (by simpa using hcap)
  have e0 : L.toArray.size = L.length := by simp
  rw [e0] at hcon
  refine Calls.mono hcon ?_
  rintro e w' ⟨rfl, q, rfl⟩
  have hle : (L.filter fun x => !p x).length ≤ L.length := List.length_filter_le _ _
  have h1 := own_put h q #[] ((L.filter fun x => !p x) ++ List.replicate (L.length - (L.filter fun x => !p x).length) []).toArray (by simp; omega) (L.filter fun x => !p x).length hle
  rw [grow_empty] at h1
  have e1 : (((L.filter fun x => !p x) ++ List.replicate (L.length - (L.filter fun x => !p x).length) []).toArray.toList.take (L.filter fun x => !p x).length) = L.filter fun x => !p x := by simp
  rw [e1] at h1
  exact ⟨rfl, h1⟩
theorem sortS_any (L : List (List UInt8)) (g cap : Nat) (w : World) (h : Own w 9 1 (.slice (some ⟨g, 0, none⟩) L.length cap) L.length (ts L)) (hl : L.length ≤ 1000000) :
    Calls Tryz.prog 48 #[.slice (some ⟨g, 0, none⟩) L.length cap] w fun e w' => e = .returned (.tuple #[]) ∧ Own w' 9 1 (.slice (some ⟨g, 0, none⟩) L.length cap) L.length (ts (L.mergeSort fun x y => decide (x ≤ y))) ∧ Fr (At1 g) w w' := by
  obtain ⟨hH, hlt, hlen, hcap⟩ := own_holds h
  refine Calls.mono (AnyM.slices_Sort_string Tryz.sortS g 0 cap L w hH hlt (by omega)) ?_
  rintro e w' ⟨rfl, n, os, rfl⟩
  have h1 := own_put h n os (L.mergeSort fun x y => decide (x ≤ y)).toArray (by simp) L.length (Nat.le_refl _)
  have e1 : ((L.mergeSort fun x y => decide (x ≤ y)).toArray.toList.take L.length) = L.mergeSort fun x y => decide (x ≤ y) := by
    rw [List.take_of_length_le (by simp)]
  rw [e1] at h1
  exact ⟨rfl, h1⟩
theorem compS_any (L : List (List UInt8)) (g cap : Nat) (w : World) (h : Own w 9 1 (.slice (some ⟨g, 0, none⟩) L.length cap) L.length (ts L)) (hl : L.length ≤ 1000000) :
    Calls Tryz.prog 49 #[.slice (some ⟨g, 0, none⟩) L.length cap] w fun e w' => RetS w g cap e (compact L) w' := by
  obtain ⟨hH, hlt, hlen, hcap⟩ := own_holds h
  have hcon := AnyE.slices_Compact Tryz.compS encStr oneS (eqS _) (neS _) [] Tryz.zeroValue9 g 0 cap L.toArray w hH (by simp; omega) (by simpa using hcap)
  have e0 : L.toArray.size = L.length := by simp
  rw [e0] at hcon
  have hce : compactUpTo L.toArray L.length = compact L := rfl
  rw [hce] at hcon
  refine Calls.mono hcon ?_
  rintro e w' ⟨rfl, q, rfl⟩
  have hle : (compact L).length ≤ L.length := compact_length_le L
  have h1 := own_put h q #[] (compact L ++ List.replicate (L.length - (compact L).length) []).toArray (by simp; omega) (compact L).length hle
  rw [grow_empty] at h1
  have e1 : ((compact L ++ List.replicate (L.length - (compact L).length) []).toArray.toList.take (compact L).length) = compact L := by simp
  rw [e1] at h1
  exact ⟨rfl, h1⟩
end Go.Proofs.YtjbeaoabhhaiiaaGreat

namespace Go.My
open Go.RowKit
set_option linter.unusedSimpArgs false
set_option linter.unusedVariables false
/-- 'append(nil, make([]T, m)...)' -/
theorem run_app_make {P : Program} (w : World) (t u ty e : TypeId) (size bytes : Nat) (he : El P t e size bytes) (hu : P.underlying u = some (.int .i64)) (m : Nat) (hm : 0 < m) (h63 : m ≤ maxLen) (hbytes : m * bytes ≤ 140737488355328) :
    ∃ cap w' xs, (Builtin.append_ #[t, u] ty #[.slice none 0 0, .int .i64 (m : Int)]).run P w = .ok (.slice (some ⟨w.heap.size, 0, none⟩) m cap) w' ∧ Own w' e size (.slice (some ⟨w.heap.size, 0, none⟩) m cap) m xs ∧ Fr No w w' ∧ m ≤ cap ∧ cap ≤ maxLen := by
  obtain ⟨ht, ⟨i, z, hi, hz, hsize, hby, hzs⟩, hpos⟩ := he
  subst hsize
  subst hby
  have h63' : ¬ (9223372036854775807 < (m : Int)) := by simp only [maxLen] at h63; omega
  have hwr : IntKind.i64.wrap (m : Int) = (m : Int) := IntWalk.i64_in _ (by simp only [maxLen] at h63; omega)
  have hneg : ¬ ((m : Int) < 0) := by omega
  have hbi : ¬ (281474976710656 < (m : Int) * (i.bytes : Int)) := by
    have h : ((m * i.bytes : Nat) : Int) ≤ 140737488355328 := by omega
    rw [Int.natCast_mul] at h
    omega
  have h48' : ¬ (281474976710656 < Builtin.nextslicecap m 0 * i.bytes) := by rw [nextslicecap_zero (by omega)]; omega
  have hms : ¬ (m * i.size = 0) := by
    have := Nat.mul_pos hm hpos
    omega
  have hm0 : ¬ (m = 0) := by omega
  have hi0 : ¬ (i.size = 0) := by omega
  have hge := grownCap_ge w m 0 e
  have hcm : grownCap w m 0 e ≤ maxLen := grownCap_le_maxLen w m 0 e h63
  refine ⟨grownCap w m 0 e, w.drew.alloc (.cells (Builtin.zeroCells z.cells m ++ Builtin.zeroCells z.cells (grownCap w m 0 e - m)) e), (Builtin.zeroCells z.cells m).toList, ?_, ⟨by rw [Array.length_toList, size_zeroCells, hzs], .inr ⟨w.heap.size, _, _, rfl, heap_alloc_new w.drew _, hge, hcm, ?_, ?_⟩⟩, ((Fr.refl No w).drew).alloc _, hge, hcm⟩
  · simp [Builtin.append_, run_underlying ht, run_underlying hu, sizeOf, typeInfo, zeroValue, hi, hz, asInt, asIntOf, hwr, hneg, hbi, hms, hm0, hi0, h63', h48', Question.forced, run_firstCells_none, newRow, grownCap]
  · simp only [Array.size_append, size_zeroCells, hzs, ← Nat.add_mul]
    exact Nat.mul_le_mul_right _ (by omega)
  · simp only [Array.toList_append]
    exact List.take_left' (by rw [Array.length_toList, size_zeroCells, hzs])
theorem wpList_app_make {P : Program} (w : World) {ops : Array Oper} {rest : List Oper} {o : Oper} {a : Act} {Q : Exit → Act → World → Prop} (hgd : o.guard = none) (s x : Operand) (t u : TypeId)
    (ho : o.op = .call { callee := .builtin .append, args := #[s, x], argTypes := #[t, u] })
    {e : TypeId} {size bytes : Nat} (he : El P t e size bytes) (hu : P.underlying u = some (.int .i64)) (m : Nat) (hm : 0 < m) (hs : a.eval s = .slice none 0 0) (hx : a.eval x = .int .i64 (m : Int)) (h63 : m ≤ maxLen) (hbytes : m * bytes ≤ 140737488355328)
    (h : ∀ cap w' xs, Own w' e size (.slice (some ⟨w.heap.size, 0, none⟩) m cap) m xs → Fr No w w' → m ≤ cap → cap ≤ maxLen → wpList P ops Q rest (a.put o.dst (.slice (some ⟨w.heap.size, 0, none⟩) m cap)) w') : wpList P ops Q (o :: rest) a w := by
  refine wpList_plain hgd fun K hK => ?_
  obtain ⟨cap, w', xs, hr, h2, h3, h4, h5⟩ := run_app_make (P := P) w t u o.type e size bytes he hu m hm h63 hbytes
  unfold Oper.wp execOp
  simp only [ho, resolve, invoke, builtin, Sem.run_bind, Sem.run_pure, Result.andThen_ok, List.map_toArray, List.map_cons, List.map_nil, hs, hx, hr]
  exact hK _ _ (h cap w' xs h2 h3 h4 h5)
/-- the first none of a row of the call's own -/
theorem Own.zero {w : World} {e : TypeId} {size n c : Nat} {A : Option Addr} {xs : List Value} (h : Own w e size (.slice A n c) n xs) : Own w e size (.slice A 0 c) 0 [] := by
  refine ⟨by simp, ?_⟩
  rcases h.2 with ⟨h0, h1⟩ | ⟨g, cap, cur, hv, hg, h1, h2, h3, h4⟩
  · injection h0 with h0 _ h2
    subst h0 h2
    exact .inl ⟨rfl, rfl⟩
  · injection hv with hA hn hc
    subst hA hc
    exact .inr ⟨g, c, cur, rfl, hg, Nat.zero_le _, h2, h3, by simp⟩
end Go.My

namespace Go.Proofs.YtjbeaoabhhaiiaaGreat
open Go.RowKit Go.My Go.Maps Go.Sort Go.Lib
set_option linter.unusedSimpArgs false
set_option linter.unusedVariables false

theorem elS : El Tryz.prog 59 9 1 16 := ⟨Tryz.underlying59, by
  have h : (Tryz.prog.info? 9).map (fun i => (i.zero, i.size, i.bytes)) = some (some (.string ⟨#[]⟩), 1, 16) := by kernel_rfl
  obtain ⟨i, hi, hz, hs, hb⟩ := info_parts h
  exact ⟨i, _, hi, hz, hs, hb, rfl⟩, by omega⟩
theorem toArr (s : ByteArray) : Value.string s = encStr s.data.toList := rfl

/-- all texts in an order's accounts -/
def allN (o : Od) (k : Nat) : List (List UInt8) := [o.an, o.pn] ++ (o.legs.take k).map Lg.nm
theorem allN_length (o : Od) (k : Nat) (h : k ≤ o.legs.length) : (allN o k).length = 2 + k := by
  unfold allN
  rw [List.length_append, List.length_map, List.length_take]
  simp
  omega
theorem allN_next (o : Od) (k : Nat) (h : k < o.legs.length) : allN o (k + 1) = allN o k ++ [o.legs[k].nm] := by
  unfold allN
  rw [List.take_succ_eq_append_getElem h, List.map_append, List.append_assoc]
  rfl
def namesO (o : Od) : List (List UInt8) := (allN o o.legs.length).filter fun s => !s.isEmpty
/-- the accounts that it names -/
def touchL (o : Od) : List (List UInt8) := upOf (namesO o)

theorem touchF_any (W : World) (x : List UInt8) : FnGives Tryz.prog 47 #[] #[encStr x] (.bool x.isEmpty) W := by
  show Calls Tryz.prog 47 #[.string ⟨x.toArray⟩] W _
  cases x with
  | nil =>
    go_enter Tryz.func47, Tryz.ntmps47
    go_wp2
    go_ret
    exact ⟨rfl, 0, rfl⟩
  | cons a l =>
    have h1 : ((⟨(a :: l).toArray⟩ : ByteArray).toList == []) = false := by rw [ByteArray.toList_eq]; rfl
    have h2 : ((a :: l) == []) = false := rfl
    go_enter Tryz.func47, Tryz.ntmps47
    go_wp2
    go_ret
    exact ⟨rfl, 0, rfl⟩

def TcRel (w1 : World) (o : Od) (v i : Value) (wr : World) : Prop :=
  ∃ k A c, k ≤ o.legs.length ∧ v = .slice A (2 + k) c ∧ i = .int .i64 (k : Nat) ∧ Own wr 9 1 (.slice A (2 + k) c) (2 + k) (ts (allN o k)) ∧ Fr No w1 wr ∧ Newer w1.heap.size none (Value.slice A (2 + k) c).ownBlock
theorem own_two (w : World) (t : TypeId) (a b : Value) : Own (w.alloc (.cells #[a, b] t)) t 1 (.slice (some ⟨w.heap.size, 0, none⟩) 2 2) 2 [a, b] :=
  ⟨rfl, .inr ⟨_, 2, #[a, b], rfl, heap_alloc_new w _, Nat.le_refl _, by decide, by simp, rfl⟩⟩
set_option maxRecDepth 100000 in
set_option maxHeartbeats 4000000 in
theorem touches_any (F : Nat → Prop) (o : Od) (v : Value) (w : World) (hv : LgS w F v o.legs) (hl : o.legs.length ≤ 100000) :
    Calls Tryz.prog 26 #[o.val v] w (RetOwn w 9 1 none (touchL o).length (ts (touchL o))) := by
  obtain ⟨ocl, osq, okd, oac, ope, osm, olg, opr, ohd, ont⟩ := o
  unfold Od.val Od.cs
  obtain ⟨vA, vc, cells, rfl, hr, hE, hlc, hcm⟩ := hv
  have hbk := Blk.new w 35 #[.int .i64 ocl, .int .i64 osq, .int .i64 okd, .string oac, .string ope, .int .i64 osm, .slice vA olg.length vc, .int .i64 opr, .int .i64 ohd, .string ont]
  have hf0 : Fr No w (w.alloc (.cells #[.int .i64 ocl, .int .i64 osq, .int .i64 okd, .string oac, .string ope, .int .i64 osm, .slice vA olg.length vc, .int .i64 opr, .int .i64 ohd, .string ont] 35)) := (Fr.refl _ _).alloc _
  simp only at hl hlc hE hr ⊢
  have hx3 := hbk.cell 3
  have hx4 := hbk.cell 4
  have hx6 := hbk.cell 6
  simp only [List.getElem?_toArray, List.getElem?_cons_zero, List.getElem?_cons_succ] at hx3 hx4 hx6
  go_enter Tryz.func26, Tryz.ntmps26
  go_upto_region 1 with (fail)
  generalize hw1 : (w.alloc (.cells #[.int .i64 ocl, .int .i64 osq, .int .i64 okd, .string oac, .string ope, .int .i64 osm, .slice vA olg.length vc, .int .i64 opr, .int .i64 ohd, .string ont] 35)) = w1 at *
  clear hw1
  have HF := Lib.hid hf0
  have HR := Lib.hid (hr.fr (by omega) hf0 fun _ _ _ h => h)
  have HE := Lib.hid hE
  have HL := Lib.hid hl
  go_upto_region 2 with (fail)
  have hf1 : Fr No w1 (w1.alloc (.cells #[.string oac, .string ope] 9)) := (Fr.refl _ _).alloc _
  have ho := own_two w1 9 (.string oac) (.string ope)
  have hb2 := hbk.alloc (.cells #[.string oac, .string ope] 9)
  have hnew : Newer w1.heap.size none (Value.slice (some ⟨w1.heap.size, 0, none⟩) 2 2).ownBlock := .inr ⟨_, rfl, Nat.le_refl _⟩
  generalize hw2 : w1.alloc (.cells #[.string oac, .string ope] 9) = w2 at *
  clear hw2 hbk hx3 hx4 hx6
  have hx6 := hb2.cell 6
  simp only [List.getElem?_toArray, List.getElem?_cons_zero, List.getElem?_cons_succ] at hx6
  have HR2 := Lib.hid (HR.out.fr (by omega) hf1 fun _ _ _ h => h)
  have HS : Hid (∀ k A c, k ≤ olg.length → Value.slice A (2 + k) c = .slice A (2 + k) c → True) := fun _ _ _ _ _ => trivial
  have H0 : Hid (TcRel w1 ⟨ocl, osq, okd, oac, ope, osm, olg, opr, ohd, ont⟩ (.slice (some ⟨w1.heap.size, 0, none⟩) 2 2) (.int .i64 0) w2) :=
    ⟨0, some ⟨w1.heap.size, 0, none⟩, 2, Nat.zero_le _, rfl, rfl, by rw [show allN ⟨ocl, osq, okd, oac, ope, osm, olg, opr, ohd, ont⟩ 0 = [oac.data.toList, ope.data.toList] from rfl]; exact ho, hf1, hnew⟩
  have HF1 := Lib.hid hf1
  clear hr hE hf0 hf1 hl ho hnew HS
  go_wp2_with fail
  go_loopw [3, 14] (fun v iv wr => TcRel w1 ⟨ocl, osq, okd, oac, ope, osm, olg, opr, ohd, ont⟩ v iv wr) (fun _ iv _ => olg.length - (intOf iv).toNat)
  case atStart => exact H0.out
  case round =>
    obtain ⟨k, A, c, hk, rfl, rfl, hown, hfr, hnew⟩ := hrel
    simp only at hk
    by_cases hlt : k < olg.length
    · obtain ⟨ad, rfl, _, hok, q0, q1⟩ := lg_at (HR.out.fr (by omega) hfr fun _ _ _ h => h) HE.out k hlt hlt
      have HAN : Hid (allN ⟨ocl, osq, okd, oac, ope, osm, olg, opr, ohd, ont⟩ (k + 1) = allN ⟨ocl, osq, okd, oac, ope, osm, olg, opr, ohd, ont⟩ k ++ [olg[k].nm]) := allN_next _ k hlt
      generalize olg[k] = g at *
      obtain ⟨nm, sm⟩ := g
      simp only at q0 q1
      have HOWN := Lib.hid hown
      have HFR := Lib.hid hfr
      have HNEW := Lib.hid hnew
      have HLT : Hid (k + 1 ≤ olg.length) := hlt
      have hk62 : (k : Int) < 9223372036854775807 := by have := HL.out; omega
      clear hown hfr hnew hok
      have hbx := Blk.new wr 116 #[.string nm, .int .i64 sm]
      have hfx : Fr No wr (wr.alloc (.cells #[.string nm, .int .i64 sm] 116)) := (Fr.refl _ _).alloc _
      have hox := HOWN.out.alloc (.cells #[.string nm, .int .i64 sm] 116)
      have hsx : wr.heap.size ≤ (wr.alloc (.cells #[.string nm, .int .i64 sm] 116)).heap.size := hfx.size
      go_upto_region 5 with (fail)
      generalize hwl : wr.alloc (.cells #[.string nm, .int .i64 sm] 116) = wl at *
      clear hwl q0 q1
      have q0 := hbx.cell 0
      simp only [List.getElem?_toArray, List.getElem?_cons_zero, List.getElem?_cons_succ] at q0
      have HOX := Lib.hid hox
      have HFX := Lib.hid hfx
      have HSX := Lib.hid hsx
      have HBD : Hid (2 + k + 1 ≤ maxLen ∧ (2 + k + 1) * 16 ≤ 140737488355328) := ⟨by have := HL.out; unfold maxLen; omega, by have := HL.out; omega⟩
      clear hbx hfx hox hsx
      go_wp2_with (at_builtin; refine wpList_app _ rfl (.tmp 18) (.tmp 21) 59 59 rfl elS (HOX.out.alloc _) rfl (Src.of_new wl.heap.size (heap_alloc_new wl _) Tryz.underlying59 rfl (by simp [Value.oneCell'])) rfl HBD.out.1 HBD.out.2 ?_; intro v1 w5 hown1 hfr1 hnew1)
      go_roundw
      case rel =>
        obtain ⟨A1, c1, rfl, _, _⟩ := hown1.form
        have hfo := Fr.trans (HFX.out.alloc (.cells #[.string nm] 9)) (Fr.refl No _)
        have := HLT.out
        refine ⟨k + 1, A1, c1, by simp only; omega, by simp only [Nat.add_assoc], by go_num, ?_, ?_, ?_⟩
        · rw [HAN.out, ts_append, ← Nat.add_assoc]
          exact hown1
        · exact fr_no (HFR.out.trans hfo) HNEW.out hfr1
        · rw [← Nat.add_assoc]
          refine HNEW.out.trans (Newer.of hnew1) ?_
          have := HFR.out.size
          have := HSX.out
          simp
          omega
      case measure => have := HLT.out; simp [intOf]; omega
    · obtain rfl : k = olg.length := by omega
      rcases hown.2 with ⟨h0, h1⟩ | ⟨g, cap, cur, hg, _⟩
      · omega
      cases hg
      have hlen : (allN ⟨ocl, osq, okd, oac, ope, osm, olg, opr, ohd, ont⟩ olg.length).length = 2 + olg.length := allN_length _ _ (Nat.le_refl _)
      have hnm : ((allN ⟨ocl, osq, okd, oac, ope, osm, olg, opr, ohd, ont⟩ olg.length).filter fun s => !s.isEmpty) = namesO ⟨ocl, osq, okd, oac, ope, osm, olg, opr, ohd, ont⟩ := rfl
      rw [← hlen] at hown hnew
      have hle : (allN ⟨ocl, osq, okd, oac, ope, osm, olg, opr, ohd, ont⟩ olg.length).length ≤ 1000000 := by have := HL.out; omega
      have HLEN := Lib.hid hlen
      have hd := delS_any 47 (fun s => s.isEmpty) _ g c wr hown hle (enters_of Tryz.func47 (by kernel_rfl) rfl) (fun W x => touchF_any W x)
      rw [hlen, hnm] at hd
      have hl2 : (namesO ⟨ocl, osq, okd, oac, ope, osm, olg, opr, ohd, ont⟩).length ≤ 1000000 := by
        rw [← hnm]
        exact Nat.le_trans (List.length_filter_le _ _) hle
      have hl3 : ((namesO ⟨ocl, osq, okd, oac, ope, osm, olg, opr, ohd, ont⟩).mergeSort fun x y => decide (x ≤ y)).length = (namesO ⟨ocl, osq, okd, oac, ope, osm, olg, opr, ohd, ont⟩).length := List.length_mergeSort _
      have hup : compact ((namesO ⟨ocl, osq, okd, oac, ope, osm, olg, opr, ohd, ont⟩).mergeSort fun x y => decide (x ≤ y)) = touchL ⟨ocl, osq, okd, oac, ope, osm, olg, opr, ohd, ont⟩ := rfl
      generalize touchL ⟨ocl, osq, okd, oac, ope, osm, olg, opr, ohd, ont⟩ = T at *
      generalize namesO ⟨ocl, osq, okd, oac, ope, osm, olg, opr, ohd, ont⟩ = N at *
      have HSO := Lib.hid (fun W h => sortS_any N g c W h hl2)
      have HCO := Lib.hid (fun W h => compS_any (N.mergeSort fun x y => decide (x ≤ y)) g c W h (by rw [hl3]; exact hl2))
      rw [hl3, hup] at HCO
      have HD := Lib.hid hd
      have HFR := Lib.hid (HF.out.trans hfr)
      have hg : w1.heap.size ≤ g := newer_none hnew g rfl
      have HG := Lib.hid (Nat.le_trans HF.out.size hg)
      clear hd hl2 hl3 hup hnm hle hown hnew hfr hg
      go_wp2_with fail
      refine HD.out.mono ?_
      rintro e u1 ⟨rfl, ho1, hf1⟩
      have HO1 := Lib.hid (HSO.out u1 ho1)
      clear ho1
      go_wp2_with fail
      refine HO1.out.mono ?_
      rintro e u2 ⟨rfl, ho2, hf2⟩
      have HO2 := Lib.hid (HCO.out u2 ho2)
      clear ho2
      go_wp2_with fail
      refine HO2.out.mono ?_
      rintro e u3 ⟨rfl, ho3, hf3⟩
      go_wp2
      go_ret
      have hf := hf1.trans (hf2.trans hf3)
      exact ⟨_, rfl, ho3, (HFR.out.trans' hf (fun i hi hlt => by have := HG.out; have e : i = g := hi; omega)).mono (fun _ _ h => (h : False).elim), .inr ⟨g, rfl, HG.out⟩⟩
end Go.Proofs.YtjbeaoabhhaiiaaGreat

namespace Go.Proofs.YtjbeaoabhhaiiaaGreat
open Go.RowKit Go.My Go.Maps
set_option linter.unusedSimpArgs false
set_option linter.unusedVariables false
theorem LgS_zero (w : World) (F : Nat → Prop) (A : Option Addr) (c : Nat) (hc : c ≤ maxLen) : LgS w F (.slice A 0 c) [] := ⟨A, c, [], rfl, ⟨by simp, fun h => absurd h (by simp)⟩, ⟨rfl, fun i x hx => by simp at hx⟩, Nat.zero_le _, hc⟩
theorem LgS_nil (w : World) (F : Nat → Prop) : LgS w F (.slice none 0 0) [] := ⟨none, 0, [], rfl, Rd.none_, ⟨rfl, fun i x hx => by simp at hx⟩, Nat.le_refl _, by unfold maxLen; omega⟩
section
open Go.ChangeShapes Go.WideShapes
variable {H : Type} {enc : TypeId × Value → H} {w : World} {base : Nat} {spare : Nat → Bool} {held : Bool}
set_option maxRecDepth 100000 in
theorem open_id {n : Nat} {cs : List Value} {x : DataW H × List MemPlace} (h : DataW.trod enc Tryz.prog w base spare held n 32 cs = some x) : ∃ a b : Int, cs = [.int .i64 a, .int .i64 b] ∧ In64 a ∧ In64 b := by
  obtain ⟨xs, m, _, _, hl, _, hf⟩ := DataW.trod_struct Tryz.underlying32 h
  have hC : Tryz.prog.cellsOf 32 = 2 := by kernel_rfl
  have C3 : Tryz.prog.cellsOf 3 = 1 := by kernel_rfl
  rw [hC] at hl
  match cs, hl with
  | [v0, v1], _ =>
    have f0 : DataW.trod enc Tryz.prog w base spare held m 3 [v0] = xs[0]? := by have := hf 0 _ rfl; simpa [C3] using this
    have f1 : DataW.trod enc Tryz.prog w base spare held m 3 [v1] = xs[1]? := by have := hf 1 _ rfl; simpa [C3] using this
    have g : ∀ i, i < xs.length → ∃ y, xs[i]? = some y := fun i hi => ⟨xs[i], List.getElem?_eq_getElem hi⟩
    have hxl : xs.length = 2 := by assumption
    obtain ⟨y0, e0⟩ := g 0 (by omega)
    obtain ⟨y1, e1⟩ := g 1 (by omega)
    rw [e0] at f0; rw [e1] at f1
    obtain ⟨k0, hk0, _, wk0⟩ := DataW.trod_int Tryz.underlying3 f0
    obtain ⟨k1, hk1, _, wk1⟩ := DataW.trod_int Tryz.underlying3 f1
    simp only [List.cons.injEq, and_true] at hk0 hk1
    subst hk0 hk1
    exact ⟨k0, k1, rfl, bounds_i64 wk0, bounds_i64 wk1⟩
/-- legs that came in are right in kind -/
def OdI (w : World) (o : Od) (v : Value) : Prop := o.ok ∧ (∀ g ∈ o.legs, g.ok) ∧ LgS w (Lt w.heap.size) v o.legs
set_option maxRecDepth 100000 in
theorem open_od {n : Nat} {cs : List Value} {x : DataW H × List MemPlace} (h : DataW.trod enc Tryz.prog w base spare held n 35 cs = some x) : ∃ (o : Od) (v : Value), cs = o.cs v ∧ OdI w o v := by
  obtain ⟨xs, m, _, _, hl, _, hf⟩ := DataW.trod_struct Tryz.underlying35 h
  have hC : Tryz.prog.cellsOf 35 = 10 := by kernel_rfl
  have C0 : Tryz.prog.cellsOf 32 = 2 := by kernel_rfl
  have C1 : Tryz.prog.cellsOf 9 = 1 := by kernel_rfl
  have C2 : Tryz.prog.cellsOf 2 = 1 := by kernel_rfl
  have C3 : Tryz.prog.cellsOf 3 = 1 := by kernel_rfl
  have C4 : Tryz.prog.cellsOf 33 = 1 := by kernel_rfl
  rw [hC] at hl
  match cs, hl with
  | [v0, v1, v2, v3, v4, v5, v6, v7, v8, v9], _ =>
    have f0 : DataW.trod enc Tryz.prog w base spare held m 32 [v0, v1] = xs[0]? := by have := hf 0 _ rfl; simpa [C0, C1, C2, C3, C4] using this
    have f1 : DataW.trod enc Tryz.prog w base spare held m 3 [v2] = xs[1]? := by have := hf 1 _ rfl; simpa [C0, C1, C2, C3, C4] using this
    have f2 : DataW.trod enc Tryz.prog w base spare held m 9 [v3] = xs[2]? := by have := hf 2 _ rfl; simpa [C0, C1, C2, C3, C4] using this
    have f3 : DataW.trod enc Tryz.prog w base spare held m 9 [v4] = xs[3]? := by have := hf 3 _ rfl; simpa [C0, C1, C2, C3, C4] using this
    have f4 : DataW.trod enc Tryz.prog w base spare held m 2 [v5] = xs[4]? := by have := hf 4 _ rfl; simpa [C0, C1, C2, C3, C4] using this
    have f5 : DataW.trod enc Tryz.prog w base spare held m 33 [v6] = xs[5]? := by have := hf 5 _ rfl; simpa [C0, C1, C2, C3, C4] using this
    have f6 : DataW.trod enc Tryz.prog w base spare held m 3 [v7] = xs[6]? := by have := hf 6 _ rfl; simpa [C0, C1, C2, C3, C4] using this
    have f7 : DataW.trod enc Tryz.prog w base spare held m 3 [v8] = xs[7]? := by have := hf 7 _ rfl; simpa [C0, C1, C2, C3, C4] using this
    have f8 : DataW.trod enc Tryz.prog w base spare held m 9 [v9] = xs[8]? := by have := hf 8 _ rfl; simpa [C0, C1, C2, C3, C4] using this
    have g : ∀ i, i < xs.length → ∃ y, xs[i]? = some y := fun i hi => ⟨xs[i], List.getElem?_eq_getElem hi⟩
    have hxl : xs.length = 9 := by assumption
    obtain ⟨y0, e0⟩ := g 0 (by omega)
    obtain ⟨y1, e1⟩ := g 1 (by omega)
    obtain ⟨y2, e2⟩ := g 2 (by omega)
    obtain ⟨y3, e3⟩ := g 3 (by omega)
    obtain ⟨y4, e4⟩ := g 4 (by omega)
    obtain ⟨y5, e5⟩ := g 5 (by omega)
    obtain ⟨y6, e6⟩ := g 6 (by omega)
    obtain ⟨y7, e7⟩ := g 7 (by omega)
    obtain ⟨y8, e8⟩ := g 8 (by omega)
    rw [e0] at f0; rw [e1] at f1; rw [e2] at f2; rw [e3] at f3; rw [e4] at f4; rw [e5] at f5; rw [e6] at f6; rw [e7] at f7; rw [e8] at f8
    obtain ⟨a, b, h01, ha, hb⟩ := open_id f0
    obtain ⟨k2, h2, _, w2⟩ := DataW.trod_int Tryz.underlying3 f1
    obtain ⟨s3, h3, _, w3⟩ := DataW.trod_string Tryz.underlying9 f2
    obtain ⟨s4, h4, _, w4⟩ := DataW.trod_string Tryz.underlying9 f3
    obtain ⟨k5, h5, _, w5⟩ := DataW.trod_int Tryz.underlying2 f4
    obtain ⟨A, c, cells, L, h6, hrd, hlc, hcm, hE⟩ := open_each RdLg Tryz.underlying33 (size := 2) (by kernel_rfl) (by omega) (fun n cs x hx => open_leg hx) f5
    obtain ⟨k7, h7, _, w7⟩ := DataW.trod_int Tryz.underlying3 f6
    obtain ⟨k8, h8, _, w8⟩ := DataW.trod_int Tryz.underlying3 f7
    obtain ⟨s9, h9, _, w9⟩ := DataW.trod_string Tryz.underlying9 f8
    simp only [List.cons.injEq, and_true] at h01 h2 h3 h4 h5 h6 h7 h8 h9
    obtain ⟨h0, h1⟩ := h01
    subst h0 h1 h2 h3 h4 h5 h6 h7 h8 h9
    refine ⟨⟨a, b, k2, s3, s4, k5, L, k7, k8, s9⟩, .slice A L.length c, rfl, ⟨ha, hb, bounds_i64 w2, w3, w4, bounds_i64 w5, bounds_i64 w7, bounds_i64 w8, w9⟩, ?_, A, c, cells, rfl, hrd, hE, hlc, hcm⟩
    intro g hg
    obtain ⟨i, hi, rfl⟩ := List.getElem_of_mem hg
    exact (hE.2 i _ (List.getElem?_eq_getElem hi)).2
set_option maxRecDepth 100000 in
theorem open_odv {r : Reach} {b0 : Nat} {v : Value} {d : DataW H} {p : List MemPlace} (hv : Value.okWide Tryz.prog w r b0 35 v)
    (h : DataW.Trod enc Tryz.prog w 0 (fun _ => true) true 35 v d p) : ∃ (o : Od) (u : Value), v = o.val u ∧ OdI w o u := by
  obtain ⟨cs, rfl, hsz⟩ := okWide_struct Tryz.underlying35 hv
  obtain ⟨fuel, hf⟩ := h
  obtain ⟨o, u, ho, hk⟩ := open_od hf
  refine ⟨o, u, ?_, hk⟩
  obtain ⟨l⟩ := cs
  have ho' : l = o.cs u := by simpa [Value.cells] using ho
  subst ho'
  rfl
end
def Od.few (o : Od) : Od := { o with legs := o.legs.take 10 }
theorem Od.few_ok {o : Od} (h : o.ok) : o.few.ok := h
theorem LgS.take {w : World} {F : Nat → Prop} {A : Option Addr} {L : List Lg} {n c : Nat} (h : LgS w F (.slice A n c) L) (k : Nat) : LgS w F (.slice A (min n k) c) (L.take k) := by
  obtain ⟨A', c', cells, e, hr, hE, h1, h2⟩ := h
  cases e
  refine ⟨A, c, cells.take (min L.length k * 2), by rw [List.length_take, Nat.min_comm], ?_, ?_, by rw [List.length_take]; omega, h2⟩
  · have := hr.take (k := min L.length k) (by omega)
    rw [List.length_take, Nat.min_comm k]
    exact this
  · refine ⟨by rw [List.length_take, List.length_take, hE.1]; omega, fun i x hx => ?_⟩
    have hi : i < (L.take k).length := (List.getElem?_eq_some_iff.1 hx).1
    rw [List.length_take] at hi
    have hx' : L[i]? = some x := by rw [List.getElem?_take] at hx; split at hx <;> simp_all
    have := hE.2 i x hx'
    rw [List.drop_take, List.take_take, Nat.min_eq_left (by omega)]
    exact this
theorem LgS.form {w : World} {F : Nat → Prop} {v : Value} {L : List Lg} (h : LgS w F v L) : ∃ A c, v = .slice A L.length c ∧ L.length ≤ c ∧ c ≤ maxLen := by
  obtain ⟨A, c, cells, e, hr, hE, h1, h2⟩ := h
  exact ⟨A, c, e, h1, h2⟩
theorem LgS.below {w w' : World} {v : Value} {L : List Lg} {B : Nat} (h : LgS w (Lt B) v L) (hb : Below B w w') : LgS w' (Lt B) v L := by
  obtain ⟨A, c, cells, e, hr, hE, h1, h2⟩ := h
  exact ⟨A, c, cells, e, hr.below hb (fun _ h => h), hE, h1, h2⟩
end Go.Proofs.YtjbeaoabhhaiiaaGreat

namespace Go.My
open Go Go.RowKit Go.Maps Go.WideMaps
set_option linter.unusedSimpArgs false
set_option linter.unusedVariables false

/-! ### lists of Ids -/

abbrev Idk := Int × Int
/-- where k stands last -/
def posF (L : List Idk) (k : Idk) : Option Nat := ((List.range L.length).reverse).find? fun i => decide (L[i]? = some k)
theorem posF_nil (k : Idk) : posF [] k = none := rfl
theorem posF_snoc (L : List Idk) (x k : Idk) : posF (L ++ [x]) k = if x = k then some L.length else posF L k := by
  unfold posF
  rw [List.length_append, List.length_singleton, List.range_succ, List.reverse_append, List.reverse_singleton, List.singleton_append, List.find?_cons]
  by_cases e : x = k
  · rw [if_pos e]
    simp [e]
  · rw [if_neg e]
    have h0 : decide ((L ++ [x])[L.length]? = some k) = false := by simp [e]
    rw [h0]
    simp only
    have : ∀ l : List Nat, (∀ i ∈ l, i < L.length) → l.find? (fun i => decide ((L ++ [x])[i]? = some k)) = l.find? (fun i => decide (L[i]? = some k)) := by
      intro l hl
      induction l with
      | nil => rfl
      | cons a r ih =>
        rw [List.find?_cons, List.find?_cons, List.getElem?_append_left (hl a List.mem_cons_self), ih fun i hi => hl i (List.mem_cons_of_mem _ hi)]
    exact this _ fun i hi => by simpa using hi
theorem posF_some {L : List Idk} {k : Idk} {i : Nat} (h : posF L k = some i) : i < L.length ∧ L[i]? = some k := by
  unfold posF at h
  have h1 := List.mem_of_find?_eq_some h
  have h2 := List.find?_some h
  exact ⟨by simpa using h1, by simpa using h2⟩
theorem posF_isSome (L : List Idk) (k : Idk) : (posF L k).isSome = decide (k ∈ L) := by
  unfold posF
  by_cases h : k ∈ L
  · rw [decide_eq_true h, List.find?_isSome]
    obtain ⟨i, hi, he⟩ := List.mem_iff_getElem.1 h
    exact ⟨i, by simpa using hi, by simp [hi, he]⟩
  · rw [decide_eq_false h]
    cases hg : ((List.range L.length).reverse).find? fun i => decide (L[i]? = some k) with
    | none => rfl
    | some i =>
      have h2 := List.find?_some hg
      have h2 : L[i]? = some k := by simpa using h2
      exact absurd (List.mem_of_getElem? h2) h
/-- each Id once -/
def keysF : List Idk → List Idk
  | [] => []
  | x :: r => if x ∈ r then keysF r else x :: keysF r
theorem mem_keysF (L : List Idk) (k : Idk) : k ∈ keysF L ↔ k ∈ L := by
  induction L with
  | nil => exact Iff.rfl
  | cons x r ih =>
    unfold keysF
    split
    · rename_i h
      rw [ih, List.mem_cons]
      exact ⟨.inr, fun e => by rcases e with rfl | e; exact h; exact e⟩
    · rw [List.mem_cons, List.mem_cons, ih]
theorem len_keysF_snoc (L : List Idk) (x : Idk) : (keysF (L ++ [x])).length = if x ∈ L then (keysF L).length else (keysF L).length + 1 := by
  induction L with
  | nil => rfl
  | cons y r ih =>
    rw [List.cons_append]
    unfold keysF
    by_cases hy : y ∈ r
    · rw [if_pos hy, if_pos (List.mem_append_left _ hy), ih]
      by_cases hx : x ∈ r
      · rw [if_pos hx, if_pos (List.mem_cons_of_mem _ hx)]
      · rw [if_neg hx, if_neg (fun e => by rcases List.mem_cons.1 e with rfl | e; exact hx hy; exact hx e)]
    · rw [if_neg hy]
      by_cases hxy : y = x
      · subst hxy
        rw [if_pos (List.mem_append_right _ List.mem_cons_self), if_pos List.mem_cons_self, ih, if_neg hy, List.length_cons]
      · rw [if_neg (fun e => by rcases List.mem_append.1 e with e | e; exact hy e; exact hxy (by simpa using e)), List.length_cons, ih]
        by_cases hx : x ∈ r
        · rw [if_pos hx, if_pos (List.mem_cons_of_mem _ hx), List.length_cons]
        · rw [if_neg hx, if_neg (fun e => by rcases List.mem_cons.1 e with e | e; exact hxy e.symm; exact hx e), List.length_cons]
theorem len_keysF_le (L : List Idk) : (keysF L).length ≤ L.length := by
  induction L with
  | nil => exact Nat.le_refl _
  | cons x r ih =>
    unfold keysF
    split
    · rw [List.length_cons]; omega
    · rw [List.length_cons, List.length_cons]; omega
theorem len_keysF_iff (L : List Idk) : (keysF L).length = L.length ↔ L.Nodup := by
  induction L with
  | nil => exact ⟨fun _ => List.nodup_nil, fun _ => rfl⟩
  | cons x r ih =>
    have hle := len_keysF_le r
    unfold keysF
    rw [List.nodup_cons]
    split
    · rename_i h
      exact ⟨fun e => by rw [List.length_cons] at e; omega, fun e => absurd h e.1⟩
    · rename_i h
      rw [List.length_cons, List.length_cons]
      exact ⟨fun e => ⟨h, ih.1 (by omega)⟩, fun e => by rw [ih.2 e.2]⟩

/-! ### the key -/

theorem wfI_ {n : Int} : (Lit.int .i64 n).wf = true ↔ In64 n := by
  unfold In64 Lit.wf IntKind.min IntKind.max
  simp [IntKind.signed, IntKind.bits]
theorem litsI {P : Program} {t : TypeId} (ht : P.underlying t = some (.int .i64)) (m : Nat) (v : Value) (L : List Lit) : P.keyLits (m + 1) t [v] = some L ↔ ∃ n : Int, v = .int .i64 n ∧ In64 n ∧ L = [.int .i64 n] := by
  unfold Program.keyLits
  rw [ht]
  constructor
  · intro h
    cases v <;> simp at h
    obtain ⟨⟨rfl, h⟩, rfl⟩ := h
    exact ⟨_, rfl, wfI_.1 h, rfl⟩
  · rintro ⟨s, rfl, hs, rfl⟩
    simp [wfI_.2 hs]
/-- a key of two ints -/
structure IdKey (P : Program) (k : TypeId) (f0 f1 : Field) : Prop where
  under : P.underlying k = some (.struct #[f0, f1])
  o0 : f0.offset = 0
  o1 : f1.offset = 1
  n0 : ¬ f0.name = "_"
  n1 : ¬ f1.name = "_"
  cells : P.cellsOf k = 2
  c0 : P.cellsOf f0.type = 1
  c1 : P.cellsOf f1.type = 1
  int0 : P.underlying f0.type = some (.int .i64)
  int1 : P.underlying f1.type = some (.int .i64)
  key : P.keyType k = true
  size : 0 < P.types.size
def ki (k : Idk) : Lit := .string (keyBytes [.int .i64 k.1, .int .i64 k.2])
theorem isKey_ki (k : Idk) : WideAt.IsKeyLit (ki k) := isKey_str _
def IdOk (k : Idk) : Prop := In64 k.1 ∧ In64 k.2
def KiInj : Prop := ∀ a b, IdOk a → IdOk b → ki a = ki b → a = b
section
variable {P : Program} {k : TypeId} {f0 f1 : Field}
theorem keyLits_two (h : IdKey P k f0 f1) (m : Nat) (cs : List Value) :
    P.keyLits (m + 1) k cs = if cs.length = 2 then (P.keyLits m f0.type (cs.take 1)).bind fun l1 => (P.keyLits m f1.type ((cs.drop 1).take 1)).map fun l2 => [l1, l2].flatten else none := by
  conv => lhs; unfold Program.keyLits
  simp only [h.under, h.cells]
  by_cases hc : cs.length = 2
  · rw [if_pos ⟨hc, by simpa using ⟨h.n0, h.n1⟩⟩, if_pos hc]
    simp only [List.mapM_cons, List.mapM_nil, h.o0, h.o1, h.c0, h.c1, List.drop_zero]
    cases P.keyLits m f0.type (cs.take 1) with
    | none => rfl
    | some l1 =>
      cases P.keyLits m f1.type ((cs.drop 1).take 1) with
      | none => rfl
      | some l2 => rfl
  · rw [if_neg (fun e => hc e.1), if_neg hc]
theorem keyLits_id (hp : IdKey P k f0 f1) (m : Nat) (cs : List Value) (L : List Lit) : P.keyLits (m + 1 + 1) k cs = some L ↔ ∃ s n : Int, cs = [.int .i64 s, .int .i64 n] ∧ In64 s ∧ In64 n ∧ L = [.int .i64 s, .int .i64 n] := by
  rw [keyLits_two hp]
  constructor
  · intro h
    split at h
    · rename_i hl
      match cs, hl with
      | [x, y], _ =>
        simp only [List.take_succ_cons, List.take_zero, List.drop_succ_cons, List.drop_zero, Option.bind_eq_some_iff, Option.map_eq_some_iff] at h
        obtain ⟨l1, h1, l2, h2, rfl⟩ := h
        obtain ⟨s, rfl, hs, rfl⟩ := (litsI hp.int0 m x l1).1 h1
        obtain ⟨n, rfl, hn, rfl⟩ := (litsI hp.int1 m y l2).1 h2
        exact ⟨s, n, rfl, hs, hn, rfl⟩
    · cases h
  · rintro ⟨s, n, rfl, hs, hn, rfl⟩
    rw [if_pos (show [Value.int .i64 s, Value.int .i64 n].length = 2 from rfl)]
    simp only [List.take_succ_cons, List.take_zero, List.drop_succ_cons, List.drop_zero, (litsI hp.int0 m _ _).2 ⟨s, rfl, hs, rfl⟩, (litsI hp.int1 m _ _).2 ⟨n, rfl, hn, rfl⟩]
    rfl
theorem IdKey.some_size (hp : IdKey P k f0 f1) : ∃ m, P.types.size = m + 1 := ⟨P.types.size - 1, by have := hp.size; omega⟩
theorem IdKey.wide (hp : IdKey P k f0 f1) : (match P.underlying k with | some (.array _ _) | some (.struct _) => true | _ => false) = true := by rw [hp.under]
theorem IdKey.of (hp : IdKey P k f0 f1) {a : Idk} (ha : IdOk a) : keyOf P k (.agg #[.int .i64 a.1, .int .i64 a.2]) = some (ki a) := by
  obtain ⟨m, hm⟩ := hp.some_size
  have h := (keyLits_id hp m [.int .i64 a.1, .int .i64 a.2] _).2 ⟨a.1, a.2, rfl, ha.1, ha.2, rfl⟩
  have hf : (Value.agg #[.int .i64 a.1, .int .i64 a.2]).formed P k = true := by
    unfold Value.formed
    rw [hp.under, hp.cells]
    rfl
  unfold keyOf
  rw [hp.under]
  simp only []
  rw [hp.key, hf, if_pos (show (true && true) = true from rfl), hm]
  show (P.keyLits (m + 1 + 1) k [.int .i64 a.1, .int .i64 a.2]).map _ = _
  rw [h]
  rfl
theorem IdKey.inv (hp : IdKey P k f0 f1) {v : Value} {l : Lit} (h : keyOf P k v = some l) : ∃ a : Idk, v = .agg #[.int .i64 a.1, .int .i64 a.2] ∧ IdOk a ∧ l = ki a := by
  obtain ⟨xs, L, rfl, h1, rfl⟩ := keyOf_top hp.wide h
  obtain ⟨m, hm⟩ := hp.some_size
  rw [hm] at h1
  obtain ⟨s, n, h2, hs, hn, rfl⟩ := (keyLits_id hp m _ _).1 h1
  refine ⟨(s, n), ?_, ⟨hs, hn⟩, rfl⟩
  rw [← h2]
theorem IdKey.apart (hp : IdKey P k f0 f1) (hk : Keyed P k) : KiInj := by
  intro a b ha hb he
  have h1 := hp.of ha
  have h2 := hp.of hb
  rw [he] at h1
  have h2 := hk.inj h1 h2
  simp only [Value.agg.injEq, Array.mk.injEq, List.cons.injEq, Value.int.injEq, and_true, true_and] at h2
  exact Prod.ext h2.1 h2.2
end

/-! ### how a map of them reads -/

structure RepI (D : DataW Unit) (L : List Idk) : Prop where
  tidy : Tidy D
  size : Maps.size D = (keysF L).length
  has : ∀ a, IdOk a → Maps.has D (ki a) = (posF L a).isSome
  look : ∀ a, IdOk a → ∀ z, D.atKey (ki a) z = match posF L a with | some i => .lit (.int .i64 i) | none => z
theorem RepI.nil : RepI (.map []) [] := ⟨tidy_empty, rfl, fun _ _ => rfl, fun _ _ _ => rfl⟩
theorem RepI.put (hi : KiInj) {D : DataW Unit} {L : List Idk} (h : RepI D L) (x : Idk) (hx : IdOk x) : RepI (D.put (ki x) (.lit (.int .i64 L.length))) (L ++ [x]) := by
  refine ⟨h.tidy.put (isKey_ki _) _, ?_, fun a ha => ?_, fun a ha z => ?_⟩
  · rw [size_put h.tidy, h.has _ hx, posF_isSome, h.size, len_keysF_snoc]
    by_cases e : x ∈ L
    · simp [e]
    · simp [e]
  · rw [posF_snoc]
    by_cases e : x = a
    · subst e
      rw [has_put_same h.tidy.isMap (isKey_ki _), if_pos rfl]
      rfl
    · rw [has_put_other (fun e2 => e (hi _ _ ha hx e2).symm), h.has a ha, if_neg e]
  · rw [posF_snoc]
    by_cases e : x = a
    · subst e
      rw [atKey_put_same h.tidy.isMap (isKey_ki _), if_pos rfl]
    · rw [atKey_put_other (fun e2 => e (hi _ _ ha hx e2).symm), h.look a ha, if_neg e]
end Go.My
namespace Go.Proofs.YtjbeaoabhhaiiaaGreat
open Go.RowKit Go.My Go.Maps Go.WideMaps
set_option linter.unusedSimpArgs false
set_option linter.unusedVariables false

theorem fr_grownI {w w' : World} {r : Nat} (h : w.grownBy w' (some r)) : Fr (At1 r) w w' := ⟨h.os, h.tape, h.output, h.size, fun k hk hn => h.block k hk (fun e => hn (by injection e))⟩
theorem laidI : laidOutB Tryz.prog = true := by kernel_rfl
theorem rowI : (32 : TypeId) < Tryz.prog.types.size := of_decide_eq_true (by kernel_rfl)
theorem lawI : KeyLaw Tryz.prog 32 := deep_law_laid laidI (m := 3) (by omega) rowI (by kernel_rfl) (by rw [Tryz.underlying32])
theorem keyedI : Keyed Tryz.prog 32 := Keyed.of_law lawI
theorem idKey : ∃ f0 f1, IdKey Tryz.prog 32 f0 f1 := ⟨_, _, {
  under := Tryz.underlying32
  o0 := rfl
  o1 := rfl
  n0 := by decide
  n1 := by decide
  cells := by kernel_rfl
  c0 := by kernel_rfl
  c1 := by kernel_rfl
  int0 := Tryz.underlying3
  int1 := Tryz.underlying3
  key := by kernel_rfl
  size := of_decide_eq_true (by kernel_rfl) }⟩
theorem key_id {a : Idk} (ha : IdOk a) : keyOf Tryz.prog 32 (.agg #[.int .i64 a.1, .int .i64 a.2]) = some (ki a) := by
  obtain ⟨f0, f1, hp⟩ := idKey
  exact hp.of ha
theorem kiInj : KiInj := by
  obtain ⟨f0, f1, hp⟩ := idKey
  exact hp.apart keyedI
noncomputable abbrev idR : Value → Option (DataW Unit × List MemPlace) := plainElem Tryz.prog 3
theorem idR_mk {n : Int} (h : In64 n) : idR (.int .i64 n) = some (.lit (.int .i64 n), []) := plainElem_int Tryz.underlying3 (wfI_.2 h)
/-- block m is a map that says where each of L's Ids stands last -/
structure IMp (w : World) (m : Nat) (L : List Idk) : Prop where
  own : ∃ D, w.ownsMap Tryz.prog 32 idR m L.length D ∧ RepI D L
section
variable {w w' : World} {m : Nat} {L : List Idk}
theorem IMp.lt (h : IMp w m L) : m < w.heap.size := by
  obtain ⟨D, hD, _⟩ := h.own
  exact hD.lt
theorem IMp.fr {F : Nat → Prop} (h : IMp w m L) (hf : Fr F w w') (hn : ¬ F m) : IMp w' m L := by
  obtain ⟨D, ⟨es, clock, hb, r⟩, hR⟩ := h
  exact ⟨D, ⟨es, clock, (hf.block m (Array.getElem?_eq_some_iff.1 hb).1 hn).trans hb, r⟩, hR⟩
theorem IMp.ne_ {g : Nat} {t : TypeId} {cs : Array Value} (h : IMp w m L) (hg : Blk w g t cs) : m ≠ g := by
  rintro rfl
  obtain ⟨D, ⟨es, clock, hb, _⟩, _⟩ := h
  unfold Blk at hg
  rw [hb] at hg
  cases hg
def posO : Option Nat → Int
  | some i => i
  | none => 0
theorem zeroId (w : World) : (zeroValue 3).run Tryz.prog w = .ok (.int .i64 0) w := by kernel_rfl
theorem IMp.val (h : IMp w m L) (a : Idk) (ha : IdOk a) : ∃ c : Int, (match posF L a with | some i => (DataW.lit (.int .i64 (i : Int)) : DataW Unit) | none => .lit (.int .i64 0)) = .lit (.int .i64 (posO (posF L a))) := by
  cases posF L a with
  | none => exact ⟨0, rfl⟩
  | some i => exact ⟨0, rfl⟩
end
end Go.Proofs.YtjbeaoabhhaiiaaGreat

namespace Go.Proofs.YtjbeaoabhhaiiaaGreat
open Go.RowKit Go.My Go.Maps
set_option linter.unusedSimpArgs false
set_option linter.unusedVariables false

def Od.id (o : Od) : Idk := (o.cl, o.sq)
def idsO (l : List Od) : List Idk := l.map Od.id
def meetL (x y : List (List UInt8)) : Bool := x.any fun s => decide (s ∈ y)
def clashB (a b : Od) : Bool := decide (a.id = b.id ∨ a.kd = 6 ∨ b.kd = 6 ∨ (a.kd = 1 ∧ b.kd = 1)) || meetL (touchL a) (touchL b)
theorem meetL_iff (x y : List (List UInt8)) : meetL x y = true ↔ ∃ s, s ∈ x ∧ s ∈ y := by
  unfold meetL
  rw [List.any_eq_true]
  exact ⟨fun ⟨s, h, k⟩ => ⟨s, h, of_decide_eq_true k⟩, fun ⟨s, h, k⟩ => ⟨s, h, decide_eq_true k⟩⟩
theorem meetL_comm (x y : List (List UInt8)) : meetL x y = meetL y x := by
  rw [Bool.eq_iff_iff, meetL_iff, meetL_iff]
  exact ⟨fun ⟨s, h, k⟩ => ⟨s, k, h⟩, fun ⟨s, h, k⟩ => ⟨s, k, h⟩⟩
theorem clashB_comm (a b : Od) : clashB a b = clashB b a := by
  unfold clashB
  rw [meetL_comm]
  congr 1
  apply decide_eq_decide.2
  constructor
  · rintro (h | h | h | h)
    · exact .inl h.symm
    · exact .inr (.inr (.inl h))
    · exact .inr (.inl h)
    · exact .inr (.inr (.inr ⟨h.2, h.1⟩))
  · rintro (h | h | h | h)
    · exact .inl h.symm
    · exact .inr (.inr (.inl h))
    · exact .inr (.inl h)
    · exact .inr (.inr (.inr ⟨h.2, h.1⟩))
theorem clashB_self (a : Od) : clashB a a = true := by
  unfold clashB
  rw [decide_eq_true (.inl rfl)]
  rfl
theorem clashB_close (a b : Od) (h : a.kd = 6) : clashB a b = true := by
  unfold clashB
  rw [decide_eq_true (.inr (.inl h))]
  rfl
/-- no Id twice -/
def rightL (l : List Od) : Bool := decide ((idsO l).Nodup)
theorem idsO_snoc (l : List Od) (o : Od) : idsO (l ++ [o]) = idsO l ++ [o.id] := by
  unfold idsO
  rw [List.map_append]
  rfl
theorem idsO_take (l : List Od) {k : Nat} (hk : k < l.length) : idsO (l.take (k + 1)) = idsO (l.take k) ++ [l[k].id] := by
  rw [List.take_succ_eq_append_getElem hk, idsO_snoc]
end Go.Proofs.YtjbeaoabhhaiiaaGreat

namespace Go.Proofs.YtjbeaoabhhaiiaaGreat
open Go.RowKit Go.My Go.Maps
set_option linter.unusedSimpArgs false
set_option linter.unusedVariables false
attribute [local go_sem ↓] Go.wp_at_zero Go.wp_at_succ

theorem bytes_ext {a b : ByteArray} (h : a.data.toList = b.data.toList) : a = b := by
  obtain ⟨⟨x⟩⟩ := a
  obtain ⟨⟨y⟩⟩ := b
  simp only at h
  rw [h]
instance : DecidableEq Lg := fun a b =>
  if h : a.acct.data.toList = b.acct.data.toList ∧ a.sum = b.sum then isTrue (by cases a; cases b; simp only [Lg.mk.injEq]; exact ⟨bytes_ext h.1, h.2⟩) else isFalse fun e => h (by subst e; exact ⟨rfl, rfl⟩)
theorem neq_lg (a b : Lg) (W : World) (h : a ≠ b) : (binOp .neq 116 (.agg #[.string a.acct, .int .i64 a.sum]) (.agg #[.string b.acct, .int .i64 b.sum])).run Tryz.prog W = .ok (.bool true) W := by
  have key : a.acct.toList = b.acct.toList → ¬ a.sum = b.sum := fun h1 h2 => h (by
    cases a; cases b
    simp only [Lg.mk.injEq]
    rw [ByteArray.toList_eq, ByteArray.toList_eq] at h1
    exact ⟨bytes_ext h1, h2⟩)
  simp [go_sem]
  exact key
def EqRel (w : World) (L R : List Lg) (iv : Value) (wr : World) : Prop := ∃ k j : Nat, k ≤ L.length ∧ iv = .int .i64 k ∧ L.take k = R.take k ∧ wr = w.drewN j
/-- the same in every field -/
def eqO (o r : Od) : Bool := decide (o.cl = r.cl ∧ o.sq = r.sq) && (decide (o.kd = r.kd) && (decide (o.an = r.an) && (decide (o.pn = r.pn) && (decide (o.sum = r.sum) && (decide (o.legs = r.legs) && (decide (o.per = r.per) && (decide (o.hold = r.hold) && decide (o.note.data.toList = r.note.data.toList))))))))
theorem eqO_iff (o r : Od) : eqO o r = true ↔ o = r := by
  unfold eqO
  simp only [Bool.and_eq_true, decide_eq_true_eq]
  constructor
  · rintro ⟨⟨h1, h2⟩, h3, h4, h5, h6, h7, h8, h9, h10⟩
    obtain ⟨a, b, c, d, e, f, g, h, i, j⟩ := o
    obtain ⟨a', b', c', d', e', f', g', h', i', j'⟩ := r
    simp only [Od.an, Od.pn] at h1 h2 h3 h4 h5 h6 h7 h8 h9 h10
    rw [h1, h2, h3, bytes_ext h4, bytes_ext h5, h6, h7, h8, h9, bytes_ext h10]
  · rintro rfl
    simp
theorem eq_id (a b c d : Int) (W : World) (h : ¬ (a = c ∧ b = d)) : (binOp .eql 32 (.agg #[.int .i64 a, .int .i64 b]) (.agg #[.int .i64 c, .int .i64 d])).run Tryz.prog W = .ok (.bool false) W := by
  simp [go_sem]
  intro h1 h2
  exact h ⟨h1, h2⟩
end Go.Proofs.YtjbeaoabhhaiiaaGreat

namespace Go.My
set_option linter.unusedSimpArgs false
set_option linter.unusedVariables false
set_option linter.unusedSectionVars false

section
variable {α : Type} {κ : Type} [DecidableEq κ]

/-- x stands somewhere, and y behind it -/
def bef (x y : α) : List α → Prop
  | [] => False
  | z :: l => (z = x ∧ y ∈ l) ∨ bef x y l
theorem bef_nil (x y : α) : ¬ bef x y [] := fun h => h
theorem bef_cons (x y z : α) (l : List α) : bef x y (z :: l) ↔ (z = x ∧ y ∈ l) ∨ bef x y l := Iff.rfl
theorem bef_append (x y : α) (l r : List α) : bef x y (l ++ r) ↔ bef x y l ∨ (x ∈ l ∧ y ∈ r) ∨ bef x y r := by
  induction l with
  | nil => simp [bef]
  | cons z l ih =>
    rw [List.cons_append, bef_cons, bef_cons, ih, List.mem_append, List.mem_cons]
    constructor
    · rintro (⟨h, h1 | h1⟩ | h | h | h)
      · exact .inl (.inl ⟨h, h1⟩)
      · exact .inr (.inl ⟨.inl h.symm, h1⟩)
      · exact .inl (.inr h)
      · exact .inr (.inl ⟨.inr h.1, h.2⟩)
      · exact .inr (.inr h)
    · rintro ((h | h) | ⟨h | h, h1⟩ | h)
      · exact .inl ⟨h.1, .inl h.2⟩
      · exact .inr (.inl h)
      · exact .inl ⟨h.symm, .inr h1⟩
      · exact .inr (.inr (.inl ⟨h, h1⟩))
      · exact .inr (.inr (.inr h))
theorem bef_mem {x y : α} {l : List α} (h : bef x y l) : x ∈ l ∧ y ∈ l := by
  induction l with
  | nil => exact absurd h (bef_nil _ _)
  | cons z l ih =>
    rcases h with ⟨rfl, h⟩ | h
    · exact ⟨List.mem_cons_self, List.mem_cons_of_mem _ h⟩
    · exact ⟨List.mem_cons_of_mem _ (ih h).1, List.mem_cons_of_mem _ (ih h).2⟩
theorem bef_filter (x y : α) (p : α → Bool) (l : List α) : bef x y (l.filter p) ↔ bef x y l ∧ p x = true ∧ p y = true := by
  induction l with
  | nil => simp [bef]
  | cons z l ih =>
    rw [List.filter_cons]
    split
    · rename_i hz
      rw [bef_cons, bef_cons, ih, List.mem_filter]
      constructor
      · rintro (⟨rfl, h, hy⟩ | ⟨h, hx, hy⟩)
        · exact ⟨.inl ⟨rfl, h⟩, hz, hy⟩
        · exact ⟨.inr h, hx, hy⟩
      · rintro ⟨⟨rfl, h⟩ | h, hx, hy⟩
        · exact .inl ⟨rfl, h, hy⟩
        · exact .inr ⟨h, hx, hy⟩
    · rename_i hz
      rw [ih, bef_cons]
      constructor
      · rintro ⟨h, hx, hy⟩
        exact ⟨.inr h, hx, hy⟩
      · rintro ⟨⟨rfl, h⟩ | h, hx, hy⟩
        · exact absurd hx hz
        · exact ⟨h, hx, hy⟩
theorem bef_total {x y : α} {l : List α} (hx : x ∈ l) (hy : y ∈ l) (hne : x ≠ y) : bef x y l ∨ bef y x l := by
  induction l with
  | nil => cases hx
  | cons z l ih =>
    rw [bef_cons, bef_cons]
    rcases List.mem_cons.1 hx with e1 | h1
    · rcases List.mem_cons.1 hy with e2 | h2
      · exact absurd (e1.trans e2.symm) hne
      · exact .inl (.inl ⟨e1.symm, h2⟩)
    · rcases List.mem_cons.1 hy with e2 | h2
      · exact .inr (.inl ⟨e2.symm, h1⟩)
      · exact (ih h1 h2).imp .inr .inr
theorem bef_anti {x y : α} {l : List α} (hn : l.Nodup) (h : bef x y l) : ¬ bef y x l := by
  induction l with
  | nil => exact absurd h (bef_nil _ _)
  | cons z l ih =>
    rw [List.nodup_cons] at hn
    rcases h with ⟨rfl, h⟩ | h
    · rintro (⟨rfl, k⟩ | k)
      · exact hn.1 k
      · exact hn.1 (bef_mem k).2
    · rintro (⟨rfl, k⟩ | k)
      · exact hn.1 (bef_mem h).2
      · exact ih hn.2 h k
theorem bef_ne {x y : α} {l : List α} (hn : l.Nodup) (h : bef x y l) : x ≠ y := by
  rintro rfl
  exact bef_anti hn h h
/-- by places -/
theorem bef_iff_get (x y : α) (l : List α) : bef x y l ↔ ∃ j, ∃ hj : j < l.length, l[j] = y ∧ x ∈ l.take j := by
  induction l with
  | nil => simp [bef]
  | cons z l ih =>
    rw [bef_cons, ih]
    constructor
    · rintro (⟨rfl, h⟩ | ⟨j, hj, h, k⟩)
      · obtain ⟨j, hj, rfl⟩ := List.mem_iff_getElem.1 h
        exact ⟨j + 1, by simp only [List.length_cons]; omega, rfl, List.mem_cons_self⟩
      · exact ⟨j + 1, by simp only [List.length_cons]; omega, h, List.mem_cons_of_mem _ k⟩
    · rintro ⟨j, hj, h, k⟩
      cases j with
      | zero => simp at k
      | succ j =>
        rw [List.take_succ_cons, List.mem_cons] at k
        rcases k with rfl | k
        · exact .inl ⟨rfl, by rw [← h]; exact List.getElem_mem _⟩
        · exact .inr ⟨j, by simp only [List.length_cons] at hj; omega, h, k⟩

theorem nodup_len [DecidableEq α] {a : List α} : ∀ {b : List α}, a.Nodup → (∀ x ∈ a, x ∈ b) → a.length ≤ b.length ∧ (a.length = b.length → ∀ x ∈ b, x ∈ a) := by
  induction a with
  | nil => intro b _ _; exact ⟨Nat.zero_le _, fun e x hx => by have : b = [] := List.eq_nil_of_length_eq_zero e.symm; rw [this] at hx; exact hx⟩
  | cons z a ih =>
    intro b hn hs
    rw [List.nodup_cons] at hn
    have hz : z ∈ b := hs z List.mem_cons_self
    have h1 := ih (b := b.erase z) hn.2 fun x hx => by
      have hne : x ≠ z := by rintro rfl; exact hn.1 hx
      exact (List.mem_erase_of_ne hne).2 (hs x (List.mem_cons_of_mem _ hx))
    have hl := List.length_erase_of_mem hz
    have hp : 0 < b.length := List.length_pos_of_mem hz
    rw [List.length_cons]
    refine ⟨by omega, fun e x hx => ?_⟩
    by_cases hxz : x = z
    · exact hxz ▸ List.mem_cons_self
    · exact List.mem_cons_of_mem _ (h1.2 (by omega) x ((List.mem_erase_of_ne hxz).2 hx))

variable (idf : α → κ) (cl : α → α → Bool)

/-- no Id twice -/
def Rt (l : List α) : Prop := (l.map idf).Nodup
/-- something can be put behind a so that it is alike b -/
def Bg (a b : List α) : Prop := Rt idf a ∧ Rt idf b ∧ (∀ o ∈ a, o ∈ b) ∧ ∀ x o, bef x o b → cl x o = true → o ∈ a → bef x o a
def Ak (a b : List α) : Prop := a.length = b.length ∧ Bg idf cl a b
/-- those of b that are not in a -/
def others (a b : List α) : List α := b.filter fun o => decide (idf o ∉ a.map idf)
variable {idf cl}
theorem Rt.nodup {l : List α} (h : Rt idf l) : l.Nodup := by
  unfold Rt at h
  exact List.Pairwise.of_map (S := (· ≠ ·)) idf (fun a b hab e => hab (by rw [e])) h
theorem Rt.inj {l : List α} (h : Rt idf l) {x y : α} (hx : x ∈ l) (hy : y ∈ l) (e : idf x = idf y) : x = y := by
  induction l with
  | nil => cases hx
  | cons z l ih =>
    unfold Rt at h
    rw [List.map_cons, List.nodup_cons] at h
    rcases List.mem_cons.1 hx with e1 | h1
    · rcases List.mem_cons.1 hy with e2 | h2
      · exact e1.trans e2.symm
      · exact absurd (by rw [← e1, e]; exact List.mem_map_of_mem h2) h.1
    · rcases List.mem_cons.1 hy with e2 | h2
      · exact absurd (by rw [← e2, ← e]; exact List.mem_map_of_mem h1) h.1
      · exact ih h.2 h1 h2
theorem Rt.nil : Rt idf [] := List.nodup_nil
theorem Rt.filter {l : List α} (h : Rt idf l) (p : α → Bool) : Rt idf (l.filter p) := by
  unfold Rt at *
  exact (List.Sublist.map idf List.filter_sublist).nodup h
theorem Rt.take {l : List α} (h : Rt idf l) (k : Nat) : Rt idf (l.take k) := by
  unfold Rt at *
  exact (List.Sublist.map idf (List.take_sublist k l)).nodup h
theorem Rt.perm {l m : List α} (h : Rt idf l) (p : l.Perm m) : Rt idf m := (p.map idf).nodup_iff.1 h
theorem mem_others {a b : List α} {o : α} : o ∈ others idf a b ↔ o ∈ b ∧ idf o ∉ a.map idf := by
  unfold others
  rw [List.mem_filter]
  simp
theorem Rt.meet {a b : List α} (ha : Rt idf a) (hb : Rt idf b) : Rt idf (a ++ others idf a b) := by
  have h1 := hb.filter fun o => decide (idf o ∉ a.map idf)
  unfold Rt at *
  rw [List.map_append, List.nodup_append]
  refine ⟨ha, h1, fun x hx y hy e => ?_⟩
  subst e
  obtain ⟨o, ho, rfl⟩ := List.mem_map.1 hy
  exact (mem_others.1 ho).2 hx
theorem others_nil (b : List α) : others idf [] b = b := by
  unfold others
  rw [List.filter_eq_self]
  intro x _
  simp
theorem others_self (b : List α) : others idf b b = [] := by
  unfold others
  rw [List.filter_eq_nil_iff]
  intro x hx
  simp only [decide_not, Bool.not_eq_true', decide_eq_false_iff_not, Decidable.not_not]
  exact List.mem_map_of_mem hx
theorem others_take {a : List α} (h : Rt idf a) (k : Nat) : a.take k ++ others idf (a.take k) a = a := by
  have e := List.take_append_drop k a
  have : others idf (a.take k) a = a.drop k := by
    conv => lhs; rw [← e]
    unfold others
    rw [List.take_append_drop]
    have h2 : Rt idf (a.take k ++ a.drop k) := by rw [e]; exact h
    unfold Rt at h2
    rw [List.map_append, List.nodup_append] at h2
    conv => lhs; arg 2; rw [← e]
    rw [List.filter_append]
    have h3 : (a.take k).filter (fun o => decide (idf o ∉ (a.take k).map idf)) = [] := by
      rw [List.filter_eq_nil_iff]
      intro x hx
      simp only [decide_not, Bool.not_eq_true', decide_eq_false_iff_not, Decidable.not_not]
      exact List.mem_map_of_mem hx
    have h4 : (a.drop k).filter (fun o => decide (idf o ∉ (a.take k).map idf)) = a.drop k := by
      rw [List.filter_eq_self]
      intro x hx
      simp only [decide_eq_true_eq]
      intro hm
      exact h2.2.2 _ hm _ (List.mem_map_of_mem hx) rfl
    rw [h3, h4]
    rfl
  rw [this, e]
theorem Bg.refl {a : List α} (h : Rt idf a) : Bg idf cl a a := ⟨h, h, fun _ h => h, fun _ _ h _ _ => h⟩
theorem Bg.nil {b : List α} (h : Rt idf b) : Bg idf cl [] b := ⟨Rt.nil, h, fun _ k => absurd k List.not_mem_nil, fun _ _ _ _ k => absurd k List.not_mem_nil⟩
theorem Bg.trans {a b c : List α} (h : Bg idf cl a b) (k : Bg idf cl b c) : Bg idf cl a c :=
  ⟨h.1, k.2.1, fun o ho => k.2.2.1 o (h.2.2.1 o ho), fun x o hb hc ho => h.2.2.2 x o (k.2.2.2 x o hb hc (h.2.2.1 o ho)) hc ho⟩
theorem Bg.take {a : List α} (h : Rt idf a) (k : Nat) : Bg idf cl (a.take k) a := by
  refine ⟨h.take k, h, fun o ho => List.mem_of_mem_take ho, fun x o hb _ ho => ?_⟩
  have e := List.take_append_drop k a
  have hn : (a.take k ++ a.drop k).Nodup := by rw [e]; exact h.nodup
  rw [List.nodup_append] at hn
  rw [← e, bef_append] at hb
  rcases hb with hb | ⟨_, hb⟩ | hb
  · exact hb
  · exact absurd rfl (hn.2.2 _ ho _ hb)
  · exact absurd rfl (hn.2.2 _ ho _ (bef_mem hb).2)
theorem Bg.len_le {a b : List α} (h : Bg idf cl a b) : a.length ≤ b.length := by
  classical
  exact (nodup_len h.1.nodup h.2.2.1).1
theorem Ak.refl {a : List α} (h : Rt idf a) : Ak idf cl a a := ⟨rfl, Bg.refl h⟩
theorem Ak.trans {a b c : List α} (h : Ak idf cl a b) (k : Ak idf cl b c) : Ak idf cl a c := ⟨h.1.trans k.1, h.2.trans k.2⟩
theorem Ak.symm (hs : ∀ x y, cl x y = cl y x) {a b : List α} (h : Ak idf cl a b) : Ak idf cl b a := by
  classical
  have hsub := (nodup_len h.2.1.nodup h.2.2.2.1).2 h.1
  refine ⟨h.1.symm, h.2.2.1, h.2.1, hsub, fun x o hb hc ho => ?_⟩
  obtain ⟨hx, -⟩ := bef_mem hb
  have hne := bef_ne h.2.1.nodup hb
  rcases bef_total (h.2.2.2.1 x hx) ho hne with k | k
  · exact k
  · exact absurd (h.2.2.2.2 o x k (by rw [hs]; exact hc) hx) (bef_anti h.2.1.nodup hb)
/-- two neighbours that do not clash change places -/
theorem Ak.swap {p r : List α} {x y : α} (hs : ∀ x y, cl x y = cl y x) (h : Rt idf (p ++ x :: y :: r)) (hc : cl x y = false) : Ak idf cl (p ++ x :: y :: r) (p ++ y :: x :: r) := by
  have hp : (p ++ x :: y :: r).Perm (p ++ y :: x :: r) := List.Perm.append_left p (List.Perm.swap y x r)
  refine ⟨hp.length_eq, h, h.perm hp, fun o ho => (hp.mem_iff).1 ho, fun u o hb hu ho => ?_⟩
  rw [bef_append, bef_cons, bef_cons] at hb ⊢
  rcases hb with hb | ⟨h1, h2⟩ | ⟨rfl, h2⟩ | ⟨rfl, h2⟩ | hb
  · exact .inl hb
  · refine .inr (.inl ⟨h1, ?_⟩)
    simp only [List.mem_cons] at h2 ⊢
    rcases h2 with h2 | h2 | h2
    · exact .inr (.inl h2)
    · exact .inl h2
    · exact .inr (.inr h2)
  · rcases List.mem_cons.1 h2 with rfl | h2
    · rw [hs, hc] at hu
      cases hu
    · exact .inr (.inr (.inr (.inl ⟨rfl, h2⟩)))
  · exact .inr (.inr (.inl ⟨rfl, List.mem_cons_of_mem _ h2⟩))
  · exact .inr (.inr (.inr (.inr hb)))
/-- what is behind a beginning, put behind it, is alike the whole -/
theorem Bg.rest (hs : ∀ x y, cl x y = cl y x) {a m : List α} (h : Bg idf cl a m) : Ak idf cl (a ++ others idf a m) m := by
  classical
  have hr := h.1.meet h.2.1
  have hin : ∀ o ∈ m, o ∈ a ++ others idf a m := fun o ho => by
    by_cases hi : idf o ∈ a.map idf
    · obtain ⟨z, hz, e⟩ := List.mem_map.1 hi
      rw [h.2.1.inj ho (h.2.2.1 z hz) e.symm]
      exact List.mem_append_left _ hz
    · exact List.mem_append_right _ (mem_others.2 ⟨ho, hi⟩)
  have hout : ∀ o ∈ a ++ others idf a m, o ∈ m := fun o ho => by
    rcases List.mem_append.1 ho with ho | ho
    · exact h.2.2.1 o ho
    · exact (mem_others.1 ho).1
  refine ⟨?_, hr, h.2.1, hout, fun x o hb hc ho => ?_⟩
  · have h1 := (nodup_len hr.nodup hout).1
    have h2 := (nodup_len h.2.1.nodup hin).1
    omega
  · rw [bef_append]
    rcases List.mem_append.1 ho with ho | ho
    · exact .inl (h.2.2.2 x o hb hc ho)
    · have hx := hin x (bef_mem hb).1
      rcases List.mem_append.1 hx with hx | hx
      · exact .inr (.inl ⟨hx, ho⟩)
      · refine .inr (.inr ?_)
        unfold others at hx ho ⊢
        exact (bef_filter _ _ _ _).2 ⟨hb, (List.mem_filter.1 hx).2, (List.mem_filter.1 ho).2⟩
theorem Bg.meet_left {a b : List α} (ha : Rt idf a) (hb : Rt idf b) : Bg idf cl a (a ++ others idf a b) := by
  have hr := ha.meet hb
  have := Bg.take (cl := cl) hr a.length
  rw [List.take_left] at this
  exact this
/-- two beginnings of one list meet, in a beginning of it -/
theorem Bg.meet (hs : ∀ x y, cl x y = cl y x) {a b c : List α} (ha : Bg idf cl a c) (hb : Bg idf cl b c) : Bg idf cl b (a ++ others idf a b) ∧ Bg idf cl (a ++ others idf a b) c := by
  have hr := ha.1.meet hb.1
  have key : ∀ o ∈ b, idf o ∈ a.map idf → o ∈ a := fun o ho hi => by
    obtain ⟨z, hz, e⟩ := List.mem_map.1 hi
    rw [ha.2.1.inj (hb.2.2.1 o ho) (ha.2.2.1 z hz) e.symm]
    exact hz
  have hout : ∀ o ∈ a ++ others idf a b, o ∈ c := fun o ho => by
    rcases List.mem_append.1 ho with ho | ho
    · exact ha.2.2.1 o ho
    · exact hb.2.2.1 o (mem_others.1 ho).1
  refine ⟨⟨hb.1, hr, fun o ho => ?_, fun x o hbf hc ho => ?_⟩, hr, ha.2.1, hout, fun x o hbf hc ho => ?_⟩
  · by_cases hi : idf o ∈ a.map idf
    · exact List.mem_append_left _ (key o ho hi)
    · exact List.mem_append_right _ (mem_others.2 ⟨ho, hi⟩)
  · -- x is ahead of o in c, too
    rw [bef_append] at hbf
    rcases hbf with hbf | ⟨hx, ho2⟩ | hbf
    · have hxa := (bef_mem hbf).1
      have hoa := (bef_mem hbf).2
      have hne := bef_ne ha.1.nodup hbf
      rcases bef_total (ha.2.2.1 x hxa) (ha.2.2.1 o hoa) hne with k | k
      · exact hb.2.2.2 x o k hc ho
      · exact absurd (ha.2.2.2 o x k (by rw [hs]; exact hc) hxa) (bef_anti ha.1.nodup hbf)
    · have hne : x ≠ o := by
        rintro rfl
        exact (mem_others.1 ho2).2 (List.mem_map_of_mem hx)
      rcases bef_total (ha.2.2.1 x hx) (hb.2.2.1 o ho) hne with k | k
      · exact hb.2.2.2 x o k hc ho
      · exact absurd (ha.2.2.2 o x k (by rw [hs]; exact hc) hx) (fun hh => (mem_others.1 ho2).2 (List.mem_map_of_mem (bef_mem hh).1))
    · unfold others at hbf
      exact ((bef_filter _ _ _ _).1 hbf).1
  · rw [bef_append]
    by_cases hoa : o ∈ a
    · exact .inl (ha.2.2.2 x o hbf hc hoa)
    · have ho2 : o ∈ others idf a b := (List.mem_append.1 ho).resolve_left hoa
      have hbb := hb.2.2.2 x o hbf hc (mem_others.1 ho2).1
      by_cases hxa : x ∈ a
      · exact .inr (.inl ⟨hxa, ho2⟩)
      · refine .inr (.inr ?_)
        unfold others
        exact (bef_filter _ _ _ _).2 ⟨hbb, by simpa using fun z hz e => hxa (key x (bef_mem hbb).1 (by rw [← e]; exact List.mem_map_of_mem hz)), by simpa using (mem_others.1 ho2).2⟩
end
end Go.My

namespace Go.Proofs.YtjbeaoabhhaiiaaGreat
open Go.RowKit Go.My Go.Maps
set_option linter.unusedSimpArgs false
set_option linter.unusedVariables false

theorem nodup_inj {α : Type} {L : List α} (hn : L.Nodup) {i j : Nat} (hi : i < L.length) (hj : j < L.length) (e : L[i] = L[j]) : i = j := by
  have h := List.pairwise_iff_getElem.1 hn
  rcases Nat.lt_trichotomy i j with k | k | k
  · exact absurd e (h i j hi hj k)
  · exact k
  · exact absurd e.symm (h j i hj hi k)
theorem posF_of {L : List Idk} (hn : L.Nodup) {i : Nat} {k : Idk} (h : L[i]? = some k) : posF L k = some i := by
  have hm : k ∈ L := List.mem_of_getElem? h
  have hs := posF_isSome L k
  rw [decide_eq_true hm] at hs
  obtain ⟨j, hj⟩ := Option.isSome_iff_exists.1 hs
  obtain ⟨hl, he⟩ := posF_some hj
  rw [hj]
  obtain ⟨hi, h⟩ := List.getElem?_eq_some_iff.1 h
  obtain ⟨hl', he⟩ := List.getElem?_eq_some_iff.1 he
  have := nodup_inj hn hl' hi (he.trans h.symm)
  rw [this]
theorem posF_none {L : List Idk} {k : Idk} : posF L k = none ↔ k ∉ L := by
  have := posF_isSome L k
  cases h : posF L k with
  | none => rw [h] at this; simpa using this
  | some i => rw [h] at this; simp at this; simpa using this
theorem rightL_iff (l : List Od) : rightL l = true ↔ Rt Od.id l := by
  unfold rightL Rt idsO
  rw [decide_eq_true_iff]
theorem idsO_length (l : List Od) : (idsO l).length = l.length := by unfold idsO; rw [List.length_map]
theorem idsO_get (l : List Od) (i : Nat) : (idsO l)[i]? = (l[i]?).map Od.id := by unfold idsO; rw [List.getElem?_map]

/-- an order stands in b, where its Id stands last -/
def hasB (b : List Od) (o : Od) : Bool := match posF (idsO b) o.id with
  | some i => (b[i]?).any fun x => eqO x o
  | none => false
def containsB (b a : List Od) : Bool := a.all (hasB b)
theorem hasB_mem {b : List Od} {o : Od} (h : hasB b o = true) : o ∈ b := by
  unfold hasB at h
  split at h
  · rename_i i hi
    cases hx : b[i]? with
    | none => rw [hx] at h; cases h
    | some x =>
      rw [hx] at h
      have : x = o := (eqO_iff _ _).1 h
      exact this ▸ List.mem_of_getElem? hx
  · cases h
theorem hasB_of {b : List Od} (hb : Rt Od.id b) {o : Od} (h : o ∈ b) : hasB b o = true := by
  obtain ⟨i, hi, rfl⟩ := List.mem_iff_getElem.1 h
  have e : (idsO b)[i]? = some b[i].id := by rw [idsO_get, List.getElem?_eq_getElem hi]; rfl
  unfold hasB
  rw [posF_of (L := idsO b) hb e]
  simp only
  rw [List.getElem?_eq_getElem hi]
  exact (eqO_iff _ _).2 rfl
theorem containsB_iff {b a : List Od} (hb : Rt Od.id b) : containsB b a = true ↔ ∀ o ∈ a, o ∈ b := by
  unfold containsB
  rw [List.all_eq_true]
  exact ⟨fun h o ho => hasB_mem (h o ho), fun h o ho => hasB_of hb (h o ho)⟩

/-- x may not stand ahead of o -/
def badB (a : List Od) (o x : Od) : Bool := clashB x o && (!(decide (x.id ∈ idsO a)) || decide (posO (posF (idsO a) o.id) < posO (posF (idsO a) x.id)))
/-- nothing that may not stands ahead of o -/
def okAt (a pre : List Od) (o : Od) : Bool := !(decide (o.id ∈ idsO a) && pre.any (badB a o))
def begB (a b : List Od) : Bool := (List.range b.length).all fun j => (b[j]?).all fun o => okAt a (b.take j) o
def beginsB (a b : List Od) : Bool := rightL a && rightL b && containsB b a && begB a b
theorem pos_lt {a : List Od} (ha : Rt Od.id a) {x o : Od} (hx : x ∈ a) (ho : o ∈ a) : posO (posF (idsO a) x.id) < posO (posF (idsO a) o.id) ↔ bef x o a := by
  obtain ⟨i, hi, rfl⟩ := List.mem_iff_getElem.1 hx
  obtain ⟨j, hj, rfl⟩ := List.mem_iff_getElem.1 ho
  have e : ∀ i (hi : i < a.length), posF (idsO a) a[i].id = some i := fun i hi => posF_of (L := idsO a) ha (by rw [idsO_get, List.getElem?_eq_getElem hi]; rfl)
  rw [e i hi, e j hj]
  unfold posO
  simp only
  rw [bef_iff_get]
  constructor
  · intro h
    exact ⟨j, hj, rfl, List.mem_take_iff_getElem.2 ⟨i, by omega, rfl⟩⟩
  · rintro ⟨k, hk, h1, h2⟩
    obtain ⟨m, hm, h3⟩ := List.mem_take_iff_getElem.1 h2
    have k1 := nodup_inj ha.nodup hk hj h1
    have k2 := nodup_inj ha.nodup (by omega) hi h3
    omega
theorem beginsB_iff (a b : List Od) : beginsB a b = true ↔ Bg Od.id clashB a b := by
  unfold beginsB Bg
  rw [Bool.and_eq_true, Bool.and_eq_true, Bool.and_eq_true, rightL_iff, rightL_iff]
  constructor
  · rintro ⟨⟨⟨ha, hb⟩, hc⟩, hg⟩
    have hc := (containsB_iff hb).1 hc
    refine ⟨ha, hb, hc, fun x o hbf hcl ho => ?_⟩
    unfold begB at hg
    rw [List.all_eq_true] at hg
    obtain ⟨j, hj, rfl, hx⟩ := (bef_iff_get x o b).1 hbf
    have h1 := hg j (List.mem_range.2 hj)
    rw [List.getElem?_eq_getElem hj] at h1
    have h1 : okAt a (b.take j) b[j] = true := h1
    unfold okAt at h1
    have hid : b[j].id ∈ idsO a := List.mem_map_of_mem ho
    rw [decide_eq_true hid, Bool.true_and, Bool.not_eq_true', List.any_eq_false] at h1
    have h2 := h1 x hx
    unfold badB at h2
    rw [hcl, Bool.true_and] at h2
    simp only [Bool.or_eq_true, Bool.not_eq_true', decide_eq_false_iff_not, decide_eq_true_eq, not_or, Decidable.not_not] at h2
    obtain ⟨h3, h4⟩ := h2
    obtain ⟨z, hz, e⟩ := List.mem_map.1 h3
    have hxa : x ∈ a := by
      rw [hb.inj (bef_mem hbf).1 (hc z hz) e.symm]
      exact hz
    rcases bef_total hxa ho (bef_ne hb.nodup hbf) with k | k
    · exact k
    · exact absurd ((pos_lt ha ho hxa).2 k) h4
  · rintro ⟨ha, hb, hc, hg⟩
    refine ⟨⟨⟨ha, hb⟩, (containsB_iff hb).2 hc⟩, ?_⟩
    unfold begB
    rw [List.all_eq_true]
    intro j hj
    have hj := List.mem_range.1 hj
    rw [List.getElem?_eq_getElem hj]
    show okAt a (b.take j) b[j] = true
    unfold okAt
    by_cases hid : b[j].id ∈ idsO a
    · rw [decide_eq_true hid, Bool.true_and, Bool.not_eq_true', List.any_eq_false]
      intro x hx
      have hbf := (bef_iff_get x b[j] b).2 ⟨j, hj, rfl, hx⟩
      obtain ⟨z, hz, e⟩ := List.mem_map.1 hid
      have hoa : b[j] ∈ a := by
        rw [hb.inj (List.getElem_mem hj) (hc z hz) e.symm]
        exact hz
      unfold badB
      cases hcl : clashB x b[j] with
      | false => simp
      | true =>
        have k := hg x b[j] hbf hcl hoa
        have hxi : x.id ∈ idsO a := List.mem_map_of_mem (bef_mem k).1
        rw [decide_eq_true hxi]
        simp only [Bool.not_true, Bool.false_or, Bool.true_and, decide_eq_true_eq]
        intro h
        exact bef_anti ha.nodup k ((pos_lt ha hoa (bef_mem k).1).1 h)
    · rw [decide_eq_false hid]
      rfl
def alikeB (a b : List Od) : Bool := decide (a.length = b.length) && beginsB a b
theorem alikeB_iff (a b : List Od) : alikeB a b = true ↔ Ak Od.id clashB a b := by
  unfold alikeB Ak
  rw [Bool.and_eq_true, decide_eq_true_iff, beginsB_iff]
/-- those that are not in a -/
def outO (a b : List Od) : List Od := others Od.id a b
theorem outO_eq (a b : List Od) : outO a b = b.filter fun o => !(posF (idsO a) o.id).isSome := by
  unfold outO others
  congr 1
  funext o
  rw [posF_isSome, Bool.eq_iff_iff]
  unfold idsO
  simp only [decide_eq_true_eq, Bool.not_eq_true', decide_eq_false_iff_not]
def restO (a b : List Od) : List Od := if beginsB a b then outO a b else []
/-- where two lists meet -/
def meetO (a b : List Od) : List Od := a ++ outO a b
def meetB (a b : List Od) : Bool := beginsB a (meetO a b) && beginsB b (meetO a b)
def retMeet (a b : List Od) : List Od := if meetB a b then meetO a b else []
/-- neighbours that change places -/
def swapO (l : List Od) (i : Nat) : Option (List Od) := match l[i]?, l[i + 1]? with
  | some x, some y => if clashB x y then none else some ((l.set i y).set (i + 1) x)
  | _, _ => none
theorem set_two (l : List Od) (i : Nat) (h : i + 1 < l.length) (x y : Od) : (l.set i x).set (i + 1) y = l.take i ++ x :: y :: l.drop (i + 2) := by
  apply List.ext_getElem?
  intro k
  rw [List.getElem?_set, List.getElem?_set]
  simp only [List.length_set, List.getElem?_append, List.length_take, List.getElem?_cons, List.getElem?_drop, List.getElem?_take]
  have hmn : min i l.length = i := by omega
  rw [hmn]
  by_cases h1 : k < i
  · rw [if_neg (by omega), if_neg (by omega), if_pos h1, if_pos h1]
  · rw [if_neg h1]
    by_cases h2 : i = k
    · subst h2
      rw [if_neg (by omega), if_pos rfl, if_pos (by omega), if_pos (by omega)]
    · by_cases h3 : i + 1 = k
      · subst h3
        rw [if_pos rfl, if_pos (by omega), if_neg (by omega), if_pos (by omega)]
      · rw [if_neg h3, if_neg h2, if_neg (by omega), if_neg (by omega)]
        congr 1
        omega
theorem swap_form {l m : List Od} {i : Nat} (h : swapO l i = some m) : ∃ p x y r, l = p ++ x :: y :: r ∧ m = p ++ y :: x :: r ∧ clashB x y = false ∧ p.length = i := by
  unfold swapO at h
  split at h
  · rename_i x y hx hy
    obtain ⟨hi, rfl⟩ := List.getElem?_eq_some_iff.1 hx
    obtain ⟨hj, rfl⟩ := List.getElem?_eq_some_iff.1 hy
    split at h
    · cases h
    · rename_i hc
      simp only [Option.some.injEq] at h
      subst h
      refine ⟨l.take i, l[i], l[i + 1], l.drop (i + 2), ?_, set_two l i hj _ _, by simpa using hc, by rw [List.length_take]; omega⟩
      rw [← List.drop_eq_getElem_cons, ← List.drop_eq_getElem_cons, List.take_append_drop]
  · cases h
theorem swap_ak {l m : List Od} {i : Nat} (hl : Rt Od.id l) (h : swapO l i = some m) : Ak Od.id clashB l m := by
  obtain ⟨p, x, y, r, rfl, rfl, hc, _⟩ := swap_form h
  exact Ak.swap clashB_comm hl hc
end Go.Proofs.YtjbeaoabhhaiiaaGreat

namespace Go.Proofs.YtjbeaoabhhaiiaaGreat
open Go.RowKit Go.My Go.Maps
set_option linter.unusedSimpArgs false
set_option linter.unusedVariables false

/-- the accounts that an order that may be looks at -/
def names (o : Od) : List (List UInt8) := if o.kd = 2 then o.legs.map Lg.nm else if o.kd = 4 then [o.an, o.pn] else [o.an]
theorem name_ne {l : List UInt8} (h : nameB l = true) : l ≠ [] := by
  rintro rfl
  unfold nameB at h
  simp at h
theorem names_touch {o : Od} (hr : rightO o = true) (h6 : o.kd ≠ 6) : ∀ s ∈ names o, s ∈ touchL o := by
  have hm : ∀ s, s ∈ allN o o.legs.length → s ≠ [] → s ∈ touchL o := fun s h1 h2 => by
    unfold touchL
    rw [(upOf_spec _).2 s]
    unfold namesO
    rw [List.mem_filter]
    refine ⟨h1, ?_⟩
    cases s with
    | nil => exact absurd rfl h2
    | cons => rfl
  unfold rightO idB at hr
  simp only [Bool.and_eq_true, decide_eq_true_eq] at hr
  obtain ⟨h1, h2, ⟨h3, h4, h5, _⟩, ha, hp, hs, hl, hper, hh, hn⟩ := hr
  have han : o.kd ≠ 2 → nameB o.an = true := fun h => by
    unfold acctB at ha
    rw [if_neg (by rintro (e | e); exact h e; exact h6 e)] at ha
    exact ha
  intro s hs
  unfold names at hs
  split at hs
  · rename_i k
    unfold legsB at hl
    rw [if_pos k] at hl
    obtain ⟨g, hg, rfl⟩ := List.mem_map.1 hs
    refine hm _ ?_ ?_
    · unfold allN
      rw [List.take_length]
      exact List.mem_append_right _ (List.mem_map_of_mem hg)
    · unfold rightB at hl
      simp only [Bool.and_eq_true, List.all_eq_true] at hl
      exact name_ne (hl.1.2 g hg).1
  · rename_i k2
    split at hs
    · rename_i k4
      simp only [List.mem_cons, List.not_mem_nil, or_false] at hs
      rcases hs with rfl | rfl
      · exact hm _ (by unfold allN; simp) (name_ne (han k2))
      · unfold peerB at hp
        rw [if_pos k4, Bool.and_eq_true] at hp
        exact hm _ (by unfold allN; simp) (name_ne hp.1)
    · rw [List.mem_singleton] at hs
      subst hs
      exact hm _ (by unfold allN; simp) (name_ne (han k2))
theorem about_loc {S S' : List Ac} {nm : List UInt8} {e : Int} (h : getA S nm = getA S' nm) : aboutR S nm e = aboutR S' nm e := by
  unfold aboutR getV
  rw [h]
theorem eff_cong {b b' : Bk} {o : Od} (h6 : o.kd ≠ 6) (hs : AgS (names o) b.S b'.S) (hh : AgH (names o) b.H b'.H) (hc : b.cl = b'.cl) (hl : o.kd = 1 → b.S.length = b'.S.length) (r1 : RiseH b.H) (r2 : RiseH b'.H) :
    effR b o = effR b' o ∧ AgS (names o) (effB b o).S (effB b' o).S ∧ AgH (names o) (effB b o).H (effB b' o).H := by
  unfold effR effB
  by_cases k1 : o.kd = 1
  · have hm : o.an ∈ names o := by unfold names; rw [if_neg (by omega), if_neg (by omega)]; exact List.mem_cons_self
    rw [if_pos k1, if_pos k1, if_pos k1, if_pos k1]
    obtain ⟨e1, e2⟩ := open_cong (lim := o.sum) hs hm (hl k1)
    exact ⟨by rw [e1]; exact about_loc (e2 _ hm), e2, hh⟩
  rw [if_neg k1, if_neg k1, if_neg k1, if_neg k1]
  by_cases k2 : o.kd = 2
  · have hm : ∀ g ∈ o.legs, g.nm ∈ names o := fun g hg => by unfold names; rw [if_pos k2]; exact List.mem_map_of_mem hg
    rw [if_pos k2, if_pos k2, if_pos k2, if_pos k2, hc]
    obtain ⟨e1, e2⟩ := make_cong hs hm
    split
    · exact ⟨rfl, hs, hh⟩
    · exact ⟨by rw [e1], e2, hh⟩
  rw [if_neg k2, if_neg k2, if_neg k2, if_neg k2]
  by_cases k3 : o.kd = 3
  · have hm : o.an ∈ names o := by unfold names; rw [if_neg (by omega), if_neg (by omega)]; exact List.mem_cons_self
    rw [if_pos k3, if_pos k3, if_pos k3, if_pos k3]
    obtain ⟨e1, e2⟩ := put_cong (n := numO o) (x := o.sum) hs hh hm r1 r2
    exact ⟨by rw [put_loc (hs _ hm) (hh _ hm), about_loc (e1 _ hm)], e1, e2⟩
  rw [if_neg k3, if_neg k3, if_neg k3, if_neg k3]
  by_cases k4 : o.kd = 4
  · have hm : o.an ∈ names o := by unfold names; rw [if_neg (by omega), if_pos k4]; exact List.mem_cons_self
    have hp : o.pn ∈ names o := by unfold names; rw [if_neg (by omega), if_pos k4]; exact List.mem_cons_of_mem _ List.mem_cons_self
    rw [if_pos k4, if_pos k4, if_pos k4, if_pos k4, hc]
    obtain ⟨e0, e1, e2⟩ := take_cong (n := o.hold) (x := o.sum) (a := o.acct) (b := o.peer) hs hh hm hp
    split
    · exact ⟨rfl, hs, hh⟩
    · exact ⟨by rw [e0]; exact about_loc (e1 _ hm), e1, e2⟩
  rw [if_neg k4, if_neg k4, if_neg k4, if_neg k4]
  by_cases k5 : o.kd = 5
  · have hm : o.an ∈ names o := by unfold names; rw [if_neg (by omega), if_neg (by omega)]; exact List.mem_cons_self
    rw [if_pos k5, if_pos k5, if_pos k5, if_pos k5]
    obtain ⟨e0, e1, e2⟩ := free_cong (n := o.hold) hs hh hm
    exact ⟨by rw [e0]; exact about_loc (e1 _ hm), e1, e2⟩
  rw [if_neg k5, if_neg k5, if_neg k5, if_neg k5, if_neg h6, if_neg h6, if_neg h6, if_neg h6]
  have hm : o.an ∈ names o := by unfold names; rw [if_neg (by omega), if_neg (by omega)]; exact List.mem_cons_self
  exact ⟨about_loc (hs _ hm), hs, hh⟩
theorem eff_far {b : Bk} {o : Od} (h6 : o.kd ≠ 6) {k : List UInt8} (hk : k ∉ names o) : getA (effB b o).S k = getA b.S k ∧ ofH (effB b o).H k = ofH b.H k := by
  unfold effB
  by_cases k1 : o.kd = 1
  · have hm : k ≠ o.an := fun e => hk (by unfold names; rw [if_neg (by omega), if_neg (by omega), e]; exact List.mem_cons_self)
    rw [if_pos k1]
    exact ⟨open_far _ _ _ hm, rfl⟩
  rw [if_neg k1]
  by_cases k2 : o.kd = 2
  · have hm : ∀ g ∈ o.legs, g.nm ≠ k := fun g hg e => hk (by unfold names; rw [if_pos k2, ← e]; exact List.mem_map_of_mem hg)
    rw [if_pos k2]
    split
    · exact ⟨rfl, rfl⟩
    · exact ⟨make_far hm, rfl⟩
  rw [if_neg k2]
  by_cases k3 : o.kd = 3
  · have hm : k ≠ o.an := fun e => hk (by unfold names; rw [if_neg (by omega), if_neg (by omega), e]; exact List.mem_cons_self)
    rw [if_pos k3]
    unfold putSS putHH
    split
    · exact ⟨asd_far _ _ _ hm, ofH_ins_far _ _ hm⟩
    · exact ⟨rfl, rfl⟩
  rw [if_neg k3]
  by_cases k4 : o.kd = 4
  · have hm : k ≠ o.an := fun e => hk (by unfold names; rw [if_neg (by omega), if_pos k4, e]; exact List.mem_cons_self)
    have hp : k ≠ o.pn := fun e => hk (by unfold names; rw [if_neg (by omega), if_pos k4, e]; exact List.mem_cons_of_mem _ List.mem_cons_self)
    rw [if_pos k4]
    split
    · exact ⟨rfl, rfl⟩
    · unfold takeSS takeHH
      split
      · refine ⟨?_, ofH_del_far _ _ _ hm⟩
        simp only
        refine (make_far (fun g hg e => ?_)).trans (asd_far _ o.acct.data.toList _ hm)
        unfold legsT at hg
        simp only [List.mem_cons, List.not_mem_nil, or_false] at hg
        rcases hg with rfl | rfl
        · exact hm e.symm
        · exact hp e.symm
      · exact ⟨rfl, rfl⟩
  rw [if_neg k4]
  by_cases k5 : o.kd = 5
  · have hm : k ≠ o.an := fun e => hk (by unfold names; rw [if_neg (by omega), if_neg (by omega), e]; exact List.mem_cons_self)
    rw [if_pos k5]
    refine ⟨?_, ?_⟩
    · simp only
      unfold freeSS
      split
      · rfl
      · exact asd_far _ _ _ hm
    · simp only
      unfold freeHH
      split
      · exact ofH_del_far _ _ _ hm
      · rfl
  rw [if_neg k5, if_neg h6]
  exact ⟨rfl, rfl⟩
theorem eff_cl {b : Bk} {o : Od} (h6 : o.kd ≠ 6) : (effB b o).cl = b.cl := by
  unfold effB
  repeat' split
  all_goals first | rfl | (rename_i h _; exact absurd h h6) | (rename_i h; exact absurd h h6)
theorem eff_len {b : Bk} (hb : BkI b) {o : Od} (h1 : o.kd ≠ 1) : (effB b o).S.length = b.S.length := by
  have hI : Inv b.S := hb.st.kp.inv
  unfold effB
  rw [if_neg h1]
  by_cases k2 : o.kd = 2
  · rw [if_pos k2]
    split
    · rfl
    · exact make_len hI
  rw [if_neg k2]
  by_cases k3 : o.kd = 3
  · rw [if_pos k3]
    simp only
    unfold putSS
    split
    · exact asd_len hI.rise _ _
    · rfl
  rw [if_neg k3]
  by_cases k4 : o.kd = 4
  · rw [if_pos k4]
    split
    · rfl
    · simp only
      unfold takeSS
      split
      · rw [make_len (inv_aside hI _ _), asd_len hI.rise]
      · rfl
  rw [if_neg k4]
  by_cases k5 : o.kd = 5
  · rw [if_pos k5]
    simp only
    unfold freeSS
    split
    · rfl
    · exact asd_len hI.rise _ _
  rw [if_neg k5]
  split
  · split <;> rfl
  · rfl
/-- neighbours that do not clash -/
theorem do_swap {b : Bk} (hb : BkI b) {o p : Od} (ho : o.ok) (hp : p.ok) (hc : clashB o p = false) : doB (doB b o) p = doB (doB b p) o ∧ doR (doB b o) p = doR b p ∧ doR (doB b p) o = doR b o := by
  have hbo := do_inv hb ho
  have hbp := do_inv hb hp
  have hbop := do_inv hbo hp
  have hbpo := do_inv hbp ho
  unfold clashB at hc
  rw [Bool.or_eq_false_iff, decide_eq_false_iff_not] at hc
  obtain ⟨hn, hmt⟩ := hc
  simp only [not_or, not_and] at hn
  obtain ⟨_, o6, p6, h11⟩ := hn
  by_cases ro : rightO o = true
  · by_cases rp : rightO p = true
    · have hdis : ∀ s, s ∈ names o → s ∉ names p := fun s h1 h2 => by
        have := (meetL_iff _ _).2 ⟨s, names_touch ro o6 s h1, names_touch rp p6 s h2⟩
        rw [hmt] at this
        cases this
      unfold doB at hbo hbp hbop hbpo ⊢
      unfold doR
      rw [if_pos ro] at hbo hbpo ⊢
      rw [if_pos rp] at hbp hbop ⊢
      simp only [if_pos ro, if_pos rp] at hbop hbpo ⊢
      have cp := eff_cong (b := effB b o) (b' := b) (o := p) p6 (fun k hk => (eff_far o6 fun h => hdis k h hk).1) (fun k hk => (eff_far o6 fun h => hdis k h hk).2) (eff_cl o6) (fun h => eff_len hb fun e => h11 e h) hbo.st.rise hb.st.rise
      have co := eff_cong (b := effB b p) (b' := b) (o := o) o6 (fun k hk => (eff_far p6 fun h => hdis k hk h).1) (fun k hk => (eff_far p6 fun h => hdis k hk h).2) (eff_cl p6) (fun h => eff_len hb fun e => h11 h e) hbp.st.rise hb.st.rise
      refine ⟨?_, cp.1, co.1⟩
      have key : ∀ k, getA (effB (effB b o) p).S k = getA (effB (effB b p) o).S k ∧ ofH (effB (effB b o) p).H k = ofH (effB (effB b p) o).H k := fun k => by
        by_cases k1 : k ∈ names o
        · have k2 := hdis k k1
          have f1 := eff_far (b := effB b o) p6 k2
          exact ⟨f1.1.trans (co.2.1 k k1).symm, f1.2.trans (co.2.2 k k1).symm⟩
        · have f1 := eff_far (b := effB b p) o6 k1
          by_cases k2 : k ∈ names p
          · exact ⟨(cp.2.1 k k2).trans f1.1.symm, (cp.2.2 k k2).trans f1.2.symm⟩
          · have f2 := eff_far (b := effB b o) p6 k2
            have f3 := eff_far (b := b) o6 k1
            have f4 := eff_far (b := b) p6 k2
            exact ⟨(f2.1.trans f3.1).trans (f1.1.trans f4.1).symm, (f2.2.trans f3.2).trans (f1.2.trans f4.2).symm⟩
      have eS := riseA_ext hbop.st.kp.inv.rise hbpo.st.kp.inv.rise fun k => (key k).1
      have eH := riseH_ext hbop.st.rise hbpo.st.rise fun k => (key k).2
      have eC : (effB (effB b o) p).cl = (effB (effB b p) o).cl := by rw [eff_cl p6, eff_cl o6, eff_cl o6, eff_cl p6]
      generalize effB (effB b o) p = x at *
      generalize effB (effB b p) o = y at *
      obtain ⟨xS, xH, xc⟩ := x
      obtain ⟨yS, yH, yc⟩ := y
      simp only at eS eH eC
      rw [eS, eH, eC]
    · have e : ∀ b, doB b p = b := fun b => by unfold doB; rw [if_neg rp]
      have e2 : ∀ b, doR b p = errR 1 := fun b => by unfold doR; rw [if_neg rp]
      rw [e, e, e2, e2]
      exact ⟨rfl, rfl, rfl⟩
  · have e : ∀ b, doB b o = b := fun b => by unfold doB; rw [if_neg ro]
    have e2 : ∀ b, doR b o = errR 1 := fun b => by unfold doR; rw [if_neg ro]
    rw [e, e, e2, e2]
    exact ⟨rfl, rfl, rfl⟩

/-! ### lists that are alike -/
/-- each order with what is told of it -/
def pairs : Bk → List Od → List (Od × Rp)
  | _, [] => []
  | b, o :: r => (o, doR b o) :: pairs (doB b o) r
theorem pairs_get (b : Bk) (l : List Od) : ∀ i : Nat, (pairs b l)[i]? = match l[i]?, (foldR b l)[i]? with | some o, some r => some (o, r) | _, _ => none := by
  induction l generalizing b with
  | nil => intro i; rfl
  | cons o r ih =>
    intro i
    cases i with
    | zero => rfl
    | succ i => exact ih (doB b o) i
/-- an order goes ahead of those with which it does not clash -/
theorem fold_ahead {x : Od} (hx : x.ok) (q : List Od) : ∀ (p : List Od) {b : Bk}, BkI b → (∀ y ∈ p, y.ok ∧ clashB y x = false) → foldB b (p ++ x :: q) = foldB b (x :: (p ++ q)) ∧ (∀ z, z ∈ pairs b (p ++ x :: q) ↔ z ∈ pairs b (x :: (p ++ q)))
  | [], b, _, _ => ⟨rfl, fun _ => Iff.rfl⟩
  | y :: p, b, hb, h => by
    obtain ⟨hy, hc⟩ := h y List.mem_cons_self
    obtain ⟨e1, e2, e3⟩ := do_swap hb hy hx hc
    obtain ⟨i1, i2⟩ := fold_ahead hx q p (do_inv hb hy) fun z hz => h z (List.mem_cons_of_mem _ hz)
    constructor
    · show foldB (doB b y) (p ++ x :: q) = foldB (doB (doB b x) y) (p ++ q)
      rw [i1, ← e1]
      rfl
    · intro z
      show z ∈ (y, doR b y) :: pairs (doB b y) (p ++ x :: q) ↔ z ∈ (x, doR b x) :: (y, doR (doB b x) y) :: pairs (doB (doB b x) y) (p ++ q)
      rw [List.mem_cons, i2 z, e3, ← e1]
      show z = _ ∨ z ∈ (x, doR (doB b y) x) :: pairs (doB (doB b y) x) (p ++ q) ↔ _
      rw [e2, List.mem_cons, List.mem_cons, List.mem_cons]
      constructor
      · rintro (h | h | h)
        · exact .inr (.inl h)
        · exact .inl h
        · exact .inr (.inr h)
      · rintro (h | h | h)
        · exact .inr (.inl h)
        · exact .inl h
        · exact .inr (.inr h)
theorem fold_ak : ∀ (l m : List Od) {b : Bk}, BkI b → (∀ o ∈ l, o.ok) → Ak Od.id clashB l m → foldB b l = foldB b m ∧ ∀ z, z ∈ pairs b l ↔ z ∈ pairs b m
  | [], m, b, _, _, h => by
    have : m = [] := List.eq_nil_of_length_eq_zero h.1.symm
    subst this
    exact ⟨rfl, fun _ => Iff.rfl⟩
  | x :: l, m, b, hb, hok, h => by
    have hx := hok x List.mem_cons_self
    have hs := Ak.symm clashB_comm h
    obtain ⟨p, q, rfl⟩ := List.append_of_mem (h.2.2.2.1 x List.mem_cons_self)
    have hmok : ∀ y ∈ p ++ x :: q, y.ok := fun y hy => hok y (hs.2.2.2.1 y hy)
    have hpc : ∀ y ∈ p, y.ok ∧ clashB y x = false := fun y hy => by
      refine ⟨hmok y (List.mem_append_left _ hy), ?_⟩
      cases hc : clashB y x with
      | false => rfl
      | true =>
        have h1 := h.2.2.2.2 y x ((bef_append _ _ _ _).2 (.inr (.inl ⟨hy, List.mem_cons_self⟩))) hc List.mem_cons_self
        have h2 := (bef_mem h1).1
        have hnd := h.2.1.nodup
        rw [List.nodup_cons] at hnd
        have hyx : y = x := by
          rcases h1 with ⟨e, h3⟩ | h3
          · exact e.symm
          · exact absurd (bef_mem h3).2 hnd.1
        subst hyx
        have hnm := h.2.2.1.nodup
        rw [List.nodup_append] at hnm
        exact absurd rfl (hnm.2.2 y hy y List.mem_cons_self)
    obtain ⟨a1, a2⟩ := fold_ahead hx q p hb hpc
    have hak : Ak Od.id clashB l (p ++ q) := by
      have hl := h.1
      have r1 := h.2.1
      have r2 := h.2.2.1
      have n2 := r2.nodup
      have hperm : (p ++ x :: q).Perm (x :: (p ++ q)) := List.perm_middle
      have r3 := r2.perm hperm
      unfold Rt at r1 r3
      rw [List.map_cons, List.nodup_cons] at r1 r3
      have n3 := (hperm.nodup_iff).1 n2
      rw [List.nodup_cons] at n3
      have n1 := h.2.1.nodup
      rw [List.nodup_cons] at n1
      refine ⟨?_, r1.2, r3.2, fun o ho => ?_, fun u o hbf hc ho => ?_⟩
      · simp only [List.length_append, List.length_cons] at hl ⊢
        omega
      · have h1 := h.2.2.2.1 o (List.mem_cons_of_mem _ ho)
        have h2 := (hperm.mem_iff).1 h1
        rcases List.mem_cons.1 h2 with e | h3
        · exact absurd (e ▸ ho) n1.1
        · exact h3
      · have h1 : bef u o (p ++ x :: q) := by
          rw [bef_append] at hbf ⊢
          rcases hbf with h | ⟨h, h'⟩ | h
          · exact .inl h
          · exact .inr (.inl ⟨h, List.mem_cons_of_mem _ h'⟩)
          · exact .inr (.inr (.inr h))
        have h2 := h.2.2.2.2 u o h1 hc (List.mem_cons_of_mem _ ho)
        rcases h2 with ⟨e, _⟩ | h2
        · have h3 := (bef_mem hbf).1
          exact absurd (e ▸ h3) n3.1
        · exact h2
    obtain ⟨b1, b2⟩ := fold_ak l (p ++ q) (do_inv hb hx) (fun o ho => hok o (List.mem_cons_of_mem _ ho)) hak
    constructor
    · rw [a1]
      exact b1
    · intro z
      rw [a2 z]
      show z ∈ (x, doR b x) :: pairs (doB b x) l ↔ z ∈ (x, doR b x) :: pairs (doB b x) (p ++ q)
      rw [List.mem_cons, List.mem_cons, b2 z]
/-- the reply to an order, wherever it stands -/
theorem reply_ak {l m : List Od} {b : Bk} (hb : BkI b) (hok : ∀ o ∈ l, o.ok) (h : Ak Od.id clashB l m) {i k : Nat} {o : Od} (hi : l[i]? = some o) (hk : m[k]? = some o) : (foldR b l)[i]? = (foldR b m)[k]? := by
  have h2 := (fold_ak l m hb hok h).2
  have lenl : (foldR b l).length = l.length := foldR_length b l
  have lenm : (foldR b m).length = m.length := foldR_length b m
  obtain ⟨hil, -⟩ := List.getElem?_eq_some_iff.1 hi
  obtain ⟨hkl, hko⟩ := List.getElem?_eq_some_iff.1 hk
  have e1 : (pairs b l)[i]? = some (o, (foldR b l)[i]'(by omega)) := by
    rw [pairs_get, hi, List.getElem?_eq_getElem (by omega)]
  have m1 := (h2 _).1 (List.mem_of_getElem? e1)
  obtain ⟨j, hj, hje⟩ := List.mem_iff_getElem.1 m1
  have e2 : (pairs b m)[j]? = some (o, (foldR b l)[i]'(by omega)) := by rw [List.getElem?_eq_getElem hj, hje]
  rw [pairs_get] at e2
  cases hm : m[j]? with
  | none => rw [hm] at e2; cases e2
  | some y =>
    cases hf : (foldR b m)[j]? with
    | none => rw [hm, hf] at e2; cases e2
    | some r =>
      rw [hm, hf] at e2
      simp only [Option.some.injEq, Prod.mk.injEq] at e2
      obtain ⟨e3, e4⟩ := e2
      obtain ⟨hjl, hjo⟩ := List.getElem?_eq_some_iff.1 hm
      have : j = k := nodup_inj h.2.2.1.nodup hjl hkl (by rw [hjo, hko, e3])
      subst this
      rw [hf, e4, List.getElem?_eq_getElem (by omega)]
end Go.Proofs.YtjbeaoabhhaiiaaGreat

namespace Go.Proofs.YtjbeaoabhhaiiaaGreat
open Go.RowKit Go.My Go.Maps
set_option linter.unusedSimpArgs false
set_option linter.unusedVariables false

/-- an event -/
structure Ev where
  cl : Int
  sq : Int
  kd : Int
  hv : Int
  st : Int
def evAt (b : Bk) (o : Od) (nm : List UInt8) : List Ev := match getA b.S nm with | some a => [⟨o.cl, o.sq, o.kd, a.hv, a.st⟩] | none => []
/-- what an order makes happen -/
def newEv (b : Bk) (o : Od) (nm : List UInt8) : List Ev := if (doR b o).err = 0 ∧ nm ∈ touchL o then evAt (doB b o) o nm else []
def evsL : Bk → List Od → List UInt8 → List Ev
  | _, [], _ => []
  | b, o :: r, nm => newEv b o nm ++ evsL (doB b o) r nm
theorem evsL_append (b : Bk) (l m : List Od) (nm : List UInt8) : evsL b (l ++ m) nm = evsL b l nm ++ evsL (foldB b l) m nm := by
  induction l generalizing b with
  | nil => rfl
  | cons o r ih =>
    show newEv b o nm ++ evsL (doB b o) (r ++ m) nm = (newEv b o nm ++ evsL (doB b o) r nm) ++ _
    rw [ih, List.append_assoc]
    rfl
theorem evsL_snoc (b : Bk) (l : List Od) (o : Od) (nm : List UInt8) : evsL b (l ++ [o]) nm = evsL b l nm ++ newEv (foldB b l) o nm := by
  rw [evsL_append]
  show _ ++ (newEv (foldB b l) o nm ++ []) = _
  rw [List.append_nil]
theorem newEv_len (b : Bk) (o : Od) (nm : List UInt8) : (newEv b o nm).length ≤ 1 := by
  unfold newEv evAt
  split
  · split <;> simp
  · simp
theorem evsL_len (b : Bk) (l : List Od) (nm : List UInt8) : (evsL b l nm).length ≤ l.length := by
  induction l generalizing b with
  | nil => exact Nat.le_refl _
  | cons o r ih =>
    show (newEv b o nm ++ evsL (doB b o) r nm).length ≤ r.length + 1
    rw [List.length_append]
    have h1 := newEv_len b o nm
    have h2 := ih (doB b o)
    omega

/-! ### accounts that are, and how they move -/
/-- the same accounts, each of which went as R says -/
def Mv (R : Ac → Ac → Prop) (S S' : List Ac) : Prop := ∀ nm, (getA S nm = none ∧ getA S' nm = none) ∨ ∃ a a', getA S nm = some a ∧ getA S' nm = some a' ∧ R a a'
section
variable {R Q T : Ac → Ac → Prop} {S S' S'' : List Ac}
theorem Mv.refl (h : ∀ a, R a a) (S : List Ac) : Mv R S S := fun nm => by
  cases e : getA S nm with
  | none => exact .inl ⟨rfl, rfl⟩
  | some a => exact .inr ⟨a, a, rfl, rfl, h a⟩
theorem Mv.trans (h : Mv R S S') (k : Mv Q S' S'') (ht : ∀ a b c, R a b → Q b c → T a c) : Mv T S S'' := fun nm => by
  rcases h nm with ⟨h1, h2⟩ | ⟨a, a', h1, h2, h3⟩
  · rcases k nm with ⟨k1, k2⟩ | ⟨b, b', k1, k2, k3⟩
    · exact .inl ⟨h1, k2⟩
    · rw [h2] at k1; cases k1
  · rcases k nm with ⟨k1, k2⟩ | ⟨b, b', k1, k2, k3⟩
    · rw [h2] at k1; cases k1
    · rw [h2] at k1
      injection k1 with k1
      subst k1
      exact .inr ⟨a, b', h1, k2, ht _ _ _ h3 k3⟩
theorem Mv.mono (h : Mv R S S') (hm : ∀ a b, R a b → Q a b) : Mv Q S S' := fun nm => by
  rcases h nm with h1 | ⟨a, a', h1, h2, h3⟩
  · exact .inl h1
  · exact .inr ⟨a, a', h1, h2, hm _ _ h3⟩
theorem Mv.some (h : Mv R S S') (nm : List UInt8) : (getA S' nm).isSome = (getA S nm).isSome := by
  rcases h nm with ⟨h1, h2⟩ | ⟨a, a', h1, h2, _⟩
  · rw [h1, h2]
  · rw [h1, h2]; rfl
theorem mv_act {f : Ac → Int} {g : Ac → Ac} (hr : ∀ a, R a a) (hg : ∀ a, (g a).name = a.name) (h : ∀ a, f a = 0 → R a (g a)) (S : List Ac) (nm : List UInt8) : Mv R S (actS f g S nm) := by
  intro k
  by_cases e : k = nm
  · subst e
    unfold actS
    cases ha : getA S k with
    | none =>
      exact .inl ⟨rfl, ha⟩
    | some a =>
      simp only
      have hn := (getA_some ha).2
      split
      · rename_i h0
        refine .inr ⟨a, g a, rfl, ?_, h a h0⟩
        have := getA_put_same S (g a)
        rw [hg a, hn] at this
        exact this
      · exact .inr ⟨a, a, rfl, ha, hr a⟩
  · rw [act_far hg S nm e]
    exact Mv.refl hr S k
end
def StEq (a b : Ac) : Prop := b.st = a.st
def HvEq (a b : Ac) : Prop := b.hv = a.hv
def HvSt (a b : Ac) : Prop := b.hv = a.hv ∧ b.st ≤ a.st
theorem mv_leg (S : List Ac) (g : Lg) : Mv StEq S (legS S g) := by
  unfold legS
  split
  · refine mv_act (R := StEq) (fun _ => rfl) (fun a => giveA_name a _) (fun a h => ?_) S _
    unfold StEq giveA
    rw [if_pos h]
  · exact Mv.refl (R := StEq) (fun _ => rfl) S
theorem mv_legs : ∀ (L : List Lg) (S : List Ac), Mv StEq S (legsS S L)
  | [], S => Mv.refl (R := StEq) (fun _ => rfl) S
  | g :: r, S => by
    unfold legsS
    split
    · exact (mv_leg S g).trans (mv_legs r _) (fun a b c h k => Eq.trans k h)
    · exact Mv.refl (R := StEq) (fun _ => rfl) S
theorem mv_make (S : List Ac) (L : List Lg) : Mv StEq S (makeS S L) := by
  unfold makeS
  split
  · exact mv_legs L S
  · exact Mv.refl (R := StEq) (fun _ => rfl) S
theorem mv_asd (S : List Ac) (nm : List UInt8) (x : Int) : Mv HvEq S (asdS S nm x) :=
  mv_act (R := HvEq) (fun _ => rfl) (fun a => asideA_name a _) (fun a h => by unfold HvEq asideA; rw [if_pos h]) S nm
theorem mv_asd_less (S : List Ac) (nm : List UInt8) (x : Int) (hx : x ≤ 0) : Mv HvSt S (asdS S nm x) :=
  mv_act (fun _ => ⟨rfl, Int.le_refl _⟩) (fun a => asideA_name a _) (fun a h => by
    unfold HvSt asideA
    rw [if_pos h]
    exact ⟨rfl, by show a.st + x ≤ a.st; omega⟩) S nm
theorem mv_put (S : List Ac) (H : List Hd) (n : Int) (a : List UInt8) (x : Int) : Mv HvEq S (putSS S H n a x) := by
  unfold putSS
  split
  · exact mv_asd _ _ _
  · exact Mv.refl (R := HvEq) (fun _ => rfl) S
theorem getH_pos {H : List Hd} (hp : PosH H) {a : List UInt8} {n : Int} {h : Hd} (hg : getH H a n = some h) : 0 < h.sum := by
  have hm : h ∈ H := by
    unfold getH at hg
    exact List.mem_of_find?_eq_some hg
  exact (hp h hm).2.2.1
theorem mv_free {S : List Ac} {H : List Hd} (hp : PosH H) (a : List UInt8) (n : Int) : Mv HvSt S (freeSS S H a n) := by
  unfold freeSS
  cases h : getH H a n with
  | none => exact Mv.refl (fun _ => ⟨rfl, Int.le_refl _⟩) S
  | some x =>
    have := getH_pos hp h
    exact mv_asd_less _ _ _ (by omega)
theorem mv_take {S : List Ac} {H : List Hd} (hp : PosH H) (a : ByteArray) (n : Int) (b : ByteArray) (x : Int) : Mv (fun a b => b.st ≤ a.st) S (takeSS S H a n b x) := by
  unfold takeSS
  split
  · rename_i h0
    refine (mv_asd_less S a.data.toList (-(sumO (getH H a.data.toList n))) ?_).trans (mv_make _ _) (fun a b c h k => ?_)
    · cases h : getH H a.data.toList n with
      | none => simp [sumO]
      | some y =>
        have := getH_pos hp h
        show -y.sum ≤ 0
        omega
    · have h2 := h.2
      have k2 : c.st = b.st := k
      omega
  · exact Mv.refl (fun _ => Int.le_refl _) S
/-- how an account goes by an order of a kind -/
def RK (kd : Int) (a b : Ac) : Prop := (kd ≠ 2 → kd ≠ 4 → b.hv = a.hv) ∧ (kd ≠ 3 → b.st ≤ a.st)
theorem RK.refl (kd : Int) (a : Ac) : RK kd a a := ⟨fun _ _ => rfl, fun _ => Int.le_refl _⟩
theorem mv_do {b : Bk} (hb : BkI b) {o : Od} (h1 : o.kd ≠ 1) : Mv (RK o.kd) b.S (doB b o).S := by
  unfold doB
  split
  · unfold effB
    rw [if_neg h1]
    by_cases k2 : o.kd = 2
    · rw [if_pos k2]
      split
      · exact Mv.refl (RK.refl _) _
      · exact (mv_make b.S o.legs).mono fun a c h => ⟨fun k _ => absurd k2 k, fun _ => by have : c.st = a.st := h; omega⟩
    rw [if_neg k2]
    by_cases k3 : o.kd = 3
    · rw [if_pos k3]
      exact (mv_put _ _ _ _ _).mono fun a c h => ⟨fun _ _ => h, fun k => absurd k3 k⟩
    rw [if_neg k3]
    by_cases k4 : o.kd = 4
    · rw [if_pos k4]
      split
      · exact Mv.refl (RK.refl _) _
      · exact (mv_take hb.st.pos _ _ _ _).mono fun a c h => ⟨fun _ k => absurd k4 k, fun _ => h⟩
    rw [if_neg k4]
    by_cases k5 : o.kd = 5
    · rw [if_pos k5]
      exact (mv_free hb.st.pos _ _).mono fun a c h => ⟨fun _ _ => h.1, fun _ => h.2⟩
    rw [if_neg k5]
    split
    · split
      · exact Mv.refl (RK.refl _) _
      · exact Mv.refl (RK.refl _) _
    · exact Mv.refl (RK.refl _) _
  · exact Mv.refl (RK.refl _) _

/-! ### which accounts an order touches -/
theorem touch_mem12 (o : Od) (s : List UInt8) : s ∈ touchL o ↔ s ∈ allN o o.legs.length ∧ s ≠ [] := by
  unfold touchL
  rw [(upOf_spec _).2 s]
  unfold namesO
  rw [List.mem_filter]
  constructor
  · rintro ⟨h1, h2⟩
    exact ⟨h1, by rintro rfl; simp at h2⟩
  · rintro ⟨h1, h2⟩
    refine ⟨h1, ?_⟩
    cases s with
    | nil => exact absurd rfl h2
    | cons => rfl
theorem touch_names {o : Od} (hr : rightO o = true) {s : List UInt8} (hs : s ∈ touchL o) : s ∈ names o ∧ o.kd ≠ 6 := by
  obtain ⟨hm, hne⟩ := (touch_mem12 o s).1 hs
  unfold allN at hm
  rw [List.take_length, List.mem_append, List.mem_cons, List.mem_cons] at hm
  unfold rightO at hr
  simp only [Bool.and_eq_true, decide_eq_true_eq] at hr
  obtain ⟨h1, h2, hid, ha, hp, hs2, hl, hper, hh, hn⟩ := hr
  have ean : o.kd = 2 ∨ o.kd = 6 → o.an = [] := fun k => by
    unfold acctB at ha
    rw [if_pos k] at ha
    simpa using ha
  have epn : o.kd ≠ 4 → o.pn = [] := fun k => by
    unfold peerB at hp
    rw [if_neg k] at hp
    simpa using hp
  have elg : o.kd ≠ 2 → o.legs = [] := fun k => by
    unfold legsB at hl
    rw [if_neg k] at hl
    simpa using hl
  unfold names
  by_cases k2 : o.kd = 2
  · rw [if_pos k2]
    refine ⟨?_, by omega⟩
    rcases hm with (h | h | h) | h
    · exact absurd (h.trans (ean (.inl k2))) hne
    · exact absurd (h.trans (epn (by omega))) hne
    · cases h
    · exact h
  · rw [if_neg k2]
    have hl0 := elg k2
    by_cases k4 : o.kd = 4
    · rw [if_pos k4]
      refine ⟨?_, by omega⟩
      rcases hm with (h | h | h) | h
      · rw [h]; exact List.mem_cons_self
      · rw [h]; exact List.mem_cons_of_mem _ List.mem_cons_self
      · cases h
      · rw [hl0] at h; cases h
    · rw [if_neg k4]
      have : s = o.an := by
        rcases hm with (h | h | h) | h
        · exact h
        · exact absurd (h.trans (epn k4)) hne
        · cases h
        · rw [hl0] at h; cases h
      subst this
      exact ⟨List.mem_cons_self, fun k6 => hne (ean (.inr k6))⟩
/-- an account that an order doesn't name stays -/
theorem do_far {b : Bk} {o : Od} {nm : List UInt8} (h : nm ∉ touchL o) : getA (doB b o).S nm = getA b.S nm := by
  unfold doB
  split
  · rename_i hr
    by_cases k6 : o.kd = 6
    · unfold effB
      rw [if_neg (by omega), if_neg (by omega), if_neg (by omega), if_neg (by omega), if_neg (by omega), if_pos k6]
      split <;> rfl
    · exact (eff_far k6 fun e => h (names_touch hr k6 nm e)).1
  · rfl
theorem about_err {S : List Ac} {nm : List UInt8} {e : Int} : (aboutR S nm e).err = 0 ↔ e = 0 ∧ (getA S nm).isSome = true := by
  unfold aboutR
  split
  · rename_i h
    constructor
    · intro h2
      simp only at h2
      refine ⟨h, ?_⟩
      split at h2
      · assumption
      · cases h2
    · intro h2
      simp only
      rw [if_pos h2.2]
  · rename_i h
    constructor
    · intro h2
      exact absurd h2 h
    · intro h2
      exact absurd h2.1 h
theorem asd_is {S : List Ac} {nm : List UInt8} {x : Int} (h : asdE S nm x = 0) : (getA S nm).isSome = true := by
  unfold asdE actE at h
  cases hg : getA S nm with
  | none => rw [hg] at h; cases h
  | some a => rfl
theorem asd_not {S : List Ac} {nm : List UInt8} {x : Int} (h : asdE S nm x ≠ 0) : asdS S nm x = S := by
  unfold asdE actE at h
  unfold asdS actS
  cases hg : getA S nm with
  | none => rfl
  | some a =>
    rw [hg] at h
    simp only at h ⊢
    rw [if_neg h]
theorem leg_is {S : List Ac} {g : Lg} (h : legE S g = 0) : (getA S g.nm).isSome = true := by
  unfold legE at h
  split at h
  · cases h
  · rename_i h2
    cases hg : getA S g.nm with
    | none => rw [hg] at h2; simp at h2
    | some a => rfl
theorem legs_is : ∀ (L : List Lg) (S : List Ac), legsE S L = 0 → ∀ g ∈ L, (getA S g.nm).isSome = true
  | [], _, _, g, hg => by cases hg
  | x :: r, S, h, g, hg => by
    unfold legsE at h
    split at h
    · rename_i h0
      rcases List.mem_cons.1 hg with rfl | hg
      · exact leg_is h0
      · rw [← (mv_leg S x).some g.nm]
        exact legs_is r _ h g hg
    · rename_i h0
      exact absurd h h0
theorem check_legs12 {S : List Ac} {L : List Lg} (h : checkE S L = 0) : legsE S L = 0 := by
  unfold checkE at h
  split at h
  · cases h
  · split at h
    · exact h
    · cases h
/-- an order that is told an error changes no account -/
theorem do_err {b : Bk} {o : Od} (h : (doR b o).err ≠ 0) (nm : List UInt8) : getA (doB b o).S nm = getA b.S nm := by
  unfold doR at h
  unfold doB
  split at h
  · rename_i hr
    rw [if_pos hr]
    unfold effR at h
    unfold effB
    by_cases k1 : o.kd = 1
    · rw [if_pos k1] at h ⊢
      show getA (openS b.S o.an o.sum) nm = _
      unfold openS
      split
      · rename_i h0
        refine absurd (about_err.2 ⟨h0, ?_⟩) h
        unfold openS
        rw [if_pos h0]
        have := getA_put_same b.S ⟨o.an, 0, 0, o.sum⟩
        rw [this]
        rfl
      · rfl
    rw [if_neg k1] at h ⊢
    by_cases k2 : o.kd = 2
    · rw [if_pos k2] at h ⊢
      split
      · rfl
      · rename_i hp
        rw [if_neg hp] at h
        show getA (makeS b.S o.legs) nm = _
        unfold makeS
        rw [if_neg (show ¬ checkE b.S o.legs = 0 from h)]
    rw [if_neg k2] at h ⊢
    by_cases k3 : o.kd = 3
    · rw [if_pos k3] at h ⊢
      show getA (putSS b.S b.H (numO o) o.an o.sum) nm = _
      unfold putSS
      split
      · rename_i h0
        exfalso
        apply h
        have ha : (aboutR (putSS b.S b.H (numO o) o.an o.sum) o.an (putE b.S b.H (numO o) o.an o.sum)).err = 0 := by
          refine about_err.2 ⟨h0, ?_⟩
          rw [(mv_put b.S b.H (numO o) o.an o.sum).some]
          unfold putE at h0
          split at h0
          · cases h0
          · split at h0
            · cases h0
            · split at h0
              · cases h0
              · exact asd_is h0
        unfold numR
        rw [if_pos ha]
        exact ha
      · rfl
    rw [if_neg k3] at h ⊢
    by_cases k4 : o.kd = 4
    · rw [if_pos k4] at h ⊢
      split
      · rfl
      · rename_i hp
        rw [if_neg hp] at h
        show getA (takeSS b.S b.H o.acct o.hold o.peer o.sum) nm = _
        unfold takeSS
        split
        · rename_i h0
          refine absurd (about_err.2 ⟨h0, ?_⟩) h
          unfold takeSS
          rw [if_pos h0, (mv_make _ _).some, (mv_asd _ _ _).some]
          unfold takeE at h0
          split at h0
          · cases h0
          · split at h0
            · cases h0
            · split at h0
              · rename_i h1
                exact asd_is h1
              · rename_i h1
                exact absurd h0 h1
        · rfl
    rw [if_neg k4] at h ⊢
    by_cases k5 : o.kd = 5
    · rw [if_pos k5] at h ⊢
      show getA (freeSS b.S b.H o.an o.hold) nm = _
      unfold freeSS
      cases hg : getH b.H o.an o.hold with
      | none => rfl
      | some x =>
        simp only
        by_cases h0 : asdE b.S o.an (-x.sum) = 0
        · refine absurd (about_err.2 ⟨?_, ?_⟩) h
          · unfold freeE
            rw [hg]
            exact h0
          · unfold freeSS
            rw [hg]
            simp only
            rw [(mv_asd _ _ _).some]
            exact asd_is h0
        · rw [asd_not h0]
    rw [if_neg k5]
    split
    · split <;> rfl
    · rfl
  · rename_i hr
    rw [if_neg hr]
/-- an order that is told no error: the accounts that it names are there -/
theorem do_ok {b : Bk} {o : Od} (h : (doR b o).err = 0) {nm : List UInt8} (hn : nm ∈ touchL o) : (getA (doB b o).S nm).isSome = true ∧ (o.kd = 1 → getA b.S nm = none) ∧ o.kd ≠ 6 := by
  unfold doR at h
  unfold doB
  split at h
  · rename_i hr
    rw [if_pos hr]
    obtain ⟨hnm, k6⟩ := touch_names hr hn
    refine ⟨?_, ?_, k6⟩
    · unfold effR at h
      unfold effB
      unfold names at hnm
      by_cases k1 : o.kd = 1
      · rw [if_pos k1] at h ⊢
        rw [if_neg (by omega), if_neg (by omega), List.mem_singleton] at hnm
        subst hnm
        exact (about_err.1 h).2
      rw [if_neg k1] at h ⊢
      by_cases k2 : o.kd = 2
      · rw [if_pos k2] at h hnm ⊢
        split
        · rename_i hp
          rw [if_pos hp] at h
          cases h
        · rename_i hp
          rw [if_neg hp] at h
          obtain ⟨g, hg, rfl⟩ := List.mem_map.1 hnm
          show (getA (makeS b.S o.legs) g.nm).isSome = true
          rw [(mv_make _ _).some]
          exact legs_is _ _ (check_legs12 h) g hg
      rw [if_neg k2] at h hnm ⊢
      by_cases k3 : o.kd = 3
      · rw [if_pos k3] at h ⊢
        rw [if_neg (by omega), List.mem_singleton] at hnm
        subst hnm
        unfold numR at h
        split at h
        · rename_i h0
          exact (about_err.1 h0).2
        · rename_i h0
          exact absurd h h0
      rw [if_neg k3] at h ⊢
      by_cases k4 : o.kd = 4
      · rw [if_pos k4] at h hnm ⊢
        split
        · rename_i hp
          rw [if_pos hp] at h
          cases h
        · rename_i hp
          rw [if_neg hp] at h
          obtain ⟨h0, h1⟩ := about_err.1 h
          rw [List.mem_cons, List.mem_singleton] at hnm
          rcases hnm with rfl | rfl
          · exact h1
          · show (getA (takeSS b.S b.H o.acct o.hold o.peer o.sum) o.pn).isSome = true
            unfold takeSS
            rw [if_pos h0, (mv_make _ _).some]
            unfold takeE at h0
            split at h0
            · cases h0
            · rename_i x hx
              split at h0
              · cases h0
              · split at h0
                · have h3 := legs_is _ _ (check_legs12 h0) ⟨o.peer, o.sum⟩ (by unfold legsT; simp)
                  rw [hx]
                  exact h3
                · rename_i h1
                  exact absurd h0 h1
      rw [if_neg k4] at h hnm ⊢
      rw [List.mem_singleton] at hnm
      subst hnm
      by_cases k5 : o.kd = 5
      · rw [if_pos k5] at h ⊢
        exact (about_err.1 h).2
      rw [if_neg k5, if_neg k6] at h ⊢
      exact (about_err.1 h).2
    · intro k1
      unfold effR at h
      unfold names at hnm
      rw [if_pos k1] at h
      rw [if_neg (by omega), if_neg (by omega), List.mem_singleton] at hnm
      subst hnm
      have h0 := (about_err.1 h).1
      unfold openE at h0
      split at h0
      · cases h0
      · split at h0
        · cases h0
        · rename_i h2
          cases hg : getA b.S o.an with
          | none => rfl
          | some a => rw [hg] at h2; exact absurd rfl h2
  · cases h
/-- what isn't there comes by an Open alone -/
theorem do_new {b : Bk} (hb : BkI b) {o : Od} {nm : List UInt8} (h : getA b.S nm = none) (k : (getA (doB b o).S nm).isSome = true) : o.kd = 1 ∧ (doR b o).err = 0 ∧ nm ∈ touchL o := by
  refine ⟨?_, ?_, ?_⟩
  · apply Classical.byContradiction
    intro h1
    rw [(mv_do hb h1).some, h] at k
    cases k
  · apply Classical.byContradiction
    intro h1
    rw [do_err h1, h] at k
    cases k
  · apply Classical.byContradiction
    intro h1
    rw [do_far h1, h] at k
    cases k

/-! ### an order more -/
theorem newEv_none {b : Bk} {o : Od} {nm : List UInt8} (h : ¬ ((doR b o).err = 0 ∧ nm ∈ touchL o)) : newEv b o nm = [] ∧ getA (doB b o).S nm = getA b.S nm := by
  refine ⟨if_neg h, ?_⟩
  by_cases h1 : (doR b o).err = 0
  · exact do_far fun e => h ⟨h1, e⟩
  · exact do_err h1 nm
theorem newEv_some {b : Bk} {o : Od} {nm : List UInt8} (h : (doR b o).err = 0 ∧ nm ∈ touchL o) : ∃ a, getA (doB b o).S nm = some a ∧ newEv b o nm = [⟨o.cl, o.sq, o.kd, a.hv, a.st⟩] := by
  obtain ⟨a, ha⟩ := Option.isSome_iff_exists.1 (do_ok h.1 h.2).1
  refine ⟨a, ha, ?_⟩
  unfold newEv evAt
  rw [if_pos h, ha]
/-- from an event to the next one -/
def EvGo (x y : Ev) : Prop := (y.hv ≠ x.hv → y.kd = 2 ∨ y.kd = 4) ∧ y.kd ≠ 1 ∧ y.kd ≠ 6 ∧ (x.st < y.st → y.kd = 3)
/-- what an account's events are like -/
structure EvIs (a : Ac) (E : List Ev) : Prop where
  pos : 0 < E.length
  hv : (E[E.length - 1]).hv = a.hv
  st : (E[E.length - 1]).st = a.st
  open_ : (E[0]).kd = 1
  go : ∀ k (h : k + 1 < E.length), EvGo E[k] E[k + 1]
def EvOf (S : List Ac) (nm : List UInt8) (E : List Ev) : Prop := match getA S nm with | none => E = [] | some a => EvIs a E
theorem evOf_do {b : Bk} (hb : BkI b) {o : Od} {nm : List UInt8} {E : List Ev} (h : EvOf b.S nm E) : EvOf (doB b o).S nm (E ++ newEv b o nm) := by
  unfold EvOf at h ⊢
  by_cases hc : (doR b o).err = 0 ∧ nm ∈ touchL o
  · obtain ⟨a', ha', hn⟩ := newEv_some hc
    rw [ha', hn]
    have hok := do_ok hc.1 hc.2
    cases hg : getA b.S nm with
    | none =>
      rw [hg] at h
      simp only at h ⊢
      subst h
      have h1 := do_new hb hg (by rw [ha']; rfl)
      exact ⟨by simp, rfl, rfl, h1.1, fun k hk => by simp at hk⟩
    | some a =>
      rw [hg] at h
      simp only at h ⊢
      have h1 : o.kd ≠ 1 := fun e => by rw [hok.2.1 e] at hg; cases hg
      rcases mv_do hb h1 nm with ⟨h2, _⟩ | ⟨x, y, h2, h3, h4⟩
      · rw [hg] at h2; cases h2
      rw [hg] at h2
      injection h2 with h2
      subst h2
      rw [ha'] at h3
      injection h3 with h3
      subst h3
      have hp := h.pos
      refine ⟨by simp, by simp, by simp, ?_, fun k hk => ?_⟩
      · have := h.open_
        simp only [List.getElem_append_left hp]
        exact this
      · simp only [List.length_append, List.length_singleton] at hk
        by_cases hl : k + 1 < E.length
        · simp only [List.getElem_append_left (show k < E.length by omega), List.getElem_append_left hl]
          exact h.go k hl
        · have e : k = E.length - 1 := by omega
          subst e
          have e2 : E.length - 1 + 1 = E.length := by omega
          simp only [List.getElem_append_left (show E.length - 1 < E.length by omega)]
          have hx : (E ++ [(⟨o.cl, o.sq, o.kd, a'.hv, a'.st⟩ : Ev)])[E.length - 1 + 1]'(by simp; omega) = ⟨o.cl, o.sq, o.kd, a'.hv, a'.st⟩ := by
            simp only [e2]
            simp
          rw [hx]
          have hv := h.hv
          have st := h.st
          refine ⟨fun hne => ?_, h1, hok.2.2, fun hlt => ?_⟩
          · simp only at hne ⊢
            apply Classical.byContradiction
            intro hk2
            rw [not_or] at hk2
            exact hne ((h4.1 hk2.1 hk2.2).trans hv.symm)
          · simp only at hlt ⊢
            apply Classical.byContradiction
            intro hk3
            have := h4.2 hk3
            omega
  · obtain ⟨h1, h2⟩ := newEv_none hc
    rw [h1, h2, List.append_nil]
    exact h
theorem evOf_fold : ∀ (l : List Od) {b : Bk} (hb : BkI b) (hok : ∀ o ∈ l, o.ok) {nm : List UInt8} {E : List Ev}, EvOf b.S nm E → EvOf (foldB b l).S nm (E ++ evsL b l nm)
  | [], b, _, _, nm, E, h => by
    show EvOf b.S nm (E ++ [])
    rw [List.append_nil]
    exact h
  | o :: r, b, hb, hok, nm, E, h => by
    have h1 := evOf_do (o := o) hb h
    have h2 := evOf_fold r (do_inv hb (hok o List.mem_cons_self)) (fun x hx => hok x (List.mem_cons_of_mem _ hx)) h1
    rw [List.append_assoc] at h2
    exact h2
theorem evOf_all {l : List Od} (hok : ∀ o ∈ l, o.ok) (nm : List UInt8) : EvOf (foldB bk0 l).S nm (evsL bk0 l nm) := by
  have h0 : EvOf bk0.S nm [] := by unfold EvOf bk0; rfl
  exact evOf_fold l bki0 hok h0

/-! ### lists that are alike -/
theorem newEv_eq {b c : Bk} {o : Od} {nm : List UInt8} (hr : doR b o = doR c o) (hS : getA (doB b o).S nm = getA (doB c o).S nm) : newEv b o nm = newEv c o nm := by
  unfold newEv evAt
  rw [hr, hS]
theorem newEv_far {b : Bk} {o : Od} {nm : List UInt8} (h : nm ∉ touchL o) : newEv b o nm = [] := if_neg fun e => h e.2
theorem ev_swap {b : Bk} (hb : BkI b) {o p : Od} (ho : o.ok) (hp : p.ok) (hc : clashB o p = false) (nm : List UInt8) : newEv b o nm ++ newEv (doB b o) p nm = newEv b p nm ++ newEv (doB b p) o nm := by
  obtain ⟨e1, e2, e3⟩ := do_swap hb ho hp hc
  have hm : ¬ (nm ∈ touchL o ∧ nm ∈ touchL p) := fun ⟨h1, h2⟩ => by
    unfold clashB at hc
    rw [Bool.or_eq_false_iff] at hc
    have := (meetL_iff _ _).2 ⟨nm, h1, h2⟩
    rw [hc.2] at this
    cases this
  by_cases h1 : nm ∈ touchL p
  · have h2 : nm ∉ touchL o := fun h => hm ⟨h, h1⟩
    rw [newEv_far h2, newEv_far h2, List.nil_append, List.append_nil]
    refine newEv_eq e2 ?_
    rw [e1, do_far h2]
  · rw [newEv_far h1, newEv_far h1, List.nil_append, List.append_nil]
    refine newEv_eq e3.symm ?_
    rw [← e1, do_far h1]
theorem evs_ahead {x : Od} (hx : x.ok) (q : List Od) (nm : List UInt8) : ∀ (p : List Od) {b : Bk}, BkI b → (∀ y ∈ p, y.ok ∧ clashB y x = false) → evsL b (p ++ x :: q) nm = evsL b (x :: (p ++ q)) nm
  | [], b, _, _ => rfl
  | y :: p, b, hb, h => by
    obtain ⟨hy, hc⟩ := h y List.mem_cons_self
    obtain ⟨e1, _, _⟩ := do_swap hb hy hx hc
    have hs := ev_swap hb hy hx hc nm
    have ih := evs_ahead hx q nm p (do_inv hb hy) fun z hz => h z (List.mem_cons_of_mem _ hz)
    show newEv b y nm ++ evsL (doB b y) (p ++ x :: q) nm = newEv b x nm ++ (newEv (doB b x) y nm ++ evsL (doB (doB b x) y) (p ++ q) nm)
    rw [ih]
    show newEv b y nm ++ (newEv (doB b y) x nm ++ evsL (doB (doB b y) x) (p ++ q) nm) = _
    rw [← List.append_assoc, hs, e1, List.append_assoc]
theorem evs_ak (nm : List UInt8) : ∀ (l m : List Od) {b : Bk}, BkI b → (∀ o ∈ l, o.ok) → Ak Od.id clashB l m → evsL b l nm = evsL b m nm
  | [], m, b, _, _, h => by
    have : m = [] := List.eq_nil_of_length_eq_zero h.1.symm
    subst this
    rfl
  | x :: l, m, b, hb, hok, h => by
    have hx := hok x List.mem_cons_self
    have hs := Ak.symm clashB_comm h
    obtain ⟨p, q, rfl⟩ := List.append_of_mem (h.2.2.2.1 x List.mem_cons_self)
    have hmok : ∀ y ∈ p ++ x :: q, y.ok := fun y hy => hok y (hs.2.2.2.1 y hy)
    have hpc : ∀ y ∈ p, y.ok ∧ clashB y x = false := fun y hy => by
      refine ⟨hmok y (List.mem_append_left _ hy), ?_⟩
      cases hc : clashB y x with
      | false => rfl
      | true =>
        have h1 := h.2.2.2.2 y x ((bef_append _ _ _ _).2 (.inr (.inl ⟨hy, List.mem_cons_self⟩))) hc List.mem_cons_self
        have h2 := (bef_mem h1).1
        have hnd := h.2.1.nodup
        rw [List.nodup_cons] at hnd
        have hyx : y = x := by
          rcases h1 with ⟨e, h3⟩ | h3
          · exact e.symm
          · exact absurd (bef_mem h3).2 hnd.1
        subst hyx
        have hnm := h.2.2.1.nodup
        rw [List.nodup_append] at hnm
        exact absurd rfl (hnm.2.2 y hy y List.mem_cons_self)
    have hak : Ak Od.id clashB l (p ++ q) := by
      have hl := h.1
      have r1 := h.2.1
      have r2 := h.2.2.1
      have n2 := r2.nodup
      have hperm : (p ++ x :: q).Perm (x :: (p ++ q)) := List.perm_middle
      have r3 := r2.perm hperm
      unfold Rt at r1 r3
      rw [List.map_cons, List.nodup_cons] at r1 r3
      have n3 := (hperm.nodup_iff).1 n2
      rw [List.nodup_cons] at n3
      have n1 := h.2.1.nodup
      rw [List.nodup_cons] at n1
      refine ⟨?_, r1.2, r3.2, fun o ho => ?_, fun u o hbf hc ho => ?_⟩
      · simp only [List.length_append, List.length_cons] at hl ⊢
        omega
      · have h1 := h.2.2.2.1 o (List.mem_cons_of_mem _ ho)
        have h2 := (hperm.mem_iff).1 h1
        rcases List.mem_cons.1 h2 with e | h3
        · exact absurd (e ▸ ho) n1.1
        · exact h3
      · have h1 : bef u o (p ++ x :: q) := by
          rw [bef_append] at hbf ⊢
          rcases hbf with h | ⟨h, h'⟩ | h
          · exact .inl h
          · exact .inr (.inl ⟨h, List.mem_cons_of_mem _ h'⟩)
          · exact .inr (.inr (.inr h))
        have h2 := h.2.2.2.2 u o h1 hc (List.mem_cons_of_mem _ ho)
        rcases h2 with ⟨e, _⟩ | h2
        · have h3 := (bef_mem hbf).1
          exact absurd (e ▸ h3) n3.1
        · exact h2
    rw [evs_ahead hx q nm p hb hpc]
    show newEv b x nm ++ evsL (doB b x) l nm = newEv b x nm ++ evsL (doB b x) (p ++ q) nm
    rw [evs_ak nm l (p ++ q) (do_inv hb hx) (fun o ho => hok o (List.mem_cons_of_mem _ ho)) hak]
end Go.Proofs.YtjbeaoabhhaiiaaGreat

namespace Go.My
open Go Go.RowKit Go.Maps
set_option linter.unusedSimpArgs false
set_option linter.unusedVariables false

theorem isKey_txt (k : List UInt8) : WideAt.IsKeyLit (.string k) := by unfold WideAt.IsKeyLit; exact True.intro
/-- block m is such a map of c keys: what it holds, by key -/
def TabS (P : Program) (kt : TypeId) (w : World) (m c : Nat) (f : List UInt8 → Option Value) : Prop :=
  ∃ D : DataW Value, w.ownsMap P kt heldR m c D ∧ Maps.size D = c ∧ Tidy D ∧ (∀ k, Maps.has D (.string k) = (f k).isSome) ∧ ∀ k z, D.atKey (.string k) z = match f k with | some v => .held v | none => z
section
variable {P : Program} {kt : TypeId} {w w' : World} {m c : Nat} {f : List UInt8 → Option Value}
theorem ownsMap_len {H : Type} {R : Value → Option (DataW H × List MemPlace)} {n : Nat} {D : DataW H} (h : w.ownsMap P kt R m n D) : w.ownsMap P kt R m (Maps.size D) D := by
  obtain ⟨es, clock, hb, F, hs, hD⟩ := h
  refine ⟨es, clock, hb, F, ?_, hD⟩
  rw [hD, Maps.size_eq, length_sorted, List.length_map]
  simp
theorem TabS.lt (h : TabS P kt w m c f) : m < w.heap.size := by obtain ⟨D, h, _⟩ := h; exact h.lt
theorem TabS.fr {F : Nat → Prop} (h : TabS P kt w m c f) (hf : Fr F w w') (hn : ¬ F m) : TabS P kt w' m c f := by
  obtain ⟨D, ⟨es, clock, hb, r⟩, r2⟩ := h
  exact ⟨D, ⟨es, clock, (hf.block m (Array.getElem?_eq_some_iff.1 hb).1 hn).trans hb, r⟩, r2⟩
theorem TabS.ne_ {g : Nat} {t : TypeId} {cs : Array Value} (h : TabS P kt w m c f) (hg : Blk w g t cs) : m ≠ g := by
  rintro rfl
  obtain ⟨D, ⟨es, clock, hb, _⟩, _⟩ := h
  unfold Blk at hg
  rw [hb] at hg
  cases hg
theorem TabS.made (w : World) : TabS P kt (w.alloc (.map #[] 0)) w.heap.size 0 (fun _ => none) :=
  ⟨.map [], World.ownsMap_made _ _ _ _, rfl, tidy_empty, fun _ => rfl, fun _ _ => rfl⟩
theorem keyS (hk : P.underlying kt = some .string) {s : ByteArray} (h : s.size ≤ maxLen) : keyOf P kt (.string s) = some (.string s.data.toList) := Go.WideMaps.keyOf_string_mk hk h
/-- the count of keys behind a store -/
def cnt (f : List UInt8 → Option Value) (c : Nat) (k : List UInt8) : Nat := if (f k).isSome then c else c + 1
def upd (f : List UInt8 → Option Value) (k : List UInt8) (v : Value) : List UInt8 → Option Value := fun j => if j = k then some v else f j
theorem TabS.put (h : TabS P kt w m c f) (hk : P.underlying kt = some .string) {t e : TypeId} (ht : P.underlying t = some (.map kt e)) (hn : c < maxLen) (s : ByteArray) (hs : s.size ≤ maxLen) (v : Value) :
    ∃ w', (Instr.mapUpdate t (.map (some m)) (.string s) v).run P w = .ok () w' ∧ TabS P kt w' m (cnt f c s.data.toList) (upd f s.data.toList v) ∧ Fr (At1 m) w w' := by
  obtain ⟨D, ho, hz, hT, hh, ha⟩ := h
  obtain ⟨w', hrun, hown, hg⟩ := ho.update (string_keyed hk) ht hn (keyS hk hs) (show heldR v = some (.held v, []) from rfl)
  generalize s.data.toList = k at *
  have hsz : Maps.size (D.put (.string k) (.held v)) = cnt f c k := by
    unfold cnt
    rw [size_put hT (.held v), hh k, hz]
  refine ⟨w', hrun, ⟨_, ?_, hsz, hT.put (isKey_txt k) _, fun j => ?_, fun j z => ?_⟩, ⟨hg.os, hg.tape, hg.output, hg.size, fun i hi hn => hg.block i hi (fun e => hn (by injection e with e))⟩⟩
  · rw [← hsz]
    exact ownsMap_len hown
  · unfold upd
    by_cases e : j = k
    · subst e
      rw [has_put_same hT.isMap (isKey_txt _)]
      simp
    · rw [has_put_other (fun e2 => e (by injection e2)), hh j]
      simp [e]
  · unfold upd
    by_cases e : j = k
    · subst e
      rw [atKey_put_same hT.isMap (isKey_txt _)]
      simp
    · rw [atKey_put_other (fun e2 => e (by injection e2)), ha j z]
      simp [e]
theorem TabS.look_ok (h : TabS P kt w m c f) (hk : P.underlying kt = some .string) {t e : TypeId} (ht : P.underlying t = some (.map kt e)) {z : Value} (hz : (zeroValue e).run P w = .ok z w) (s : ByteArray) (hs : s.size ≤ maxLen) :
    (Instr.lookup t (.map (some m)) (.string s) true).run P w = .ok (.tuple #[(f s.data.toList).getD z, .bool (f s.data.toList).isSome]) w := by
  obtain ⟨D, ho, _, hT, hh, ha⟩ := h
  obtain ⟨v, ps, hrun, hv⟩ := ho.look_ok (string_keyed hk) ht hz (show heldR z = some (.held z, []) from rfl) (keyS hk hs)
  rw [hh] at hrun
  rw [ha] at hv
  cases hf : f s.data.toList with
  | none =>
    rw [hf] at hrun hv
    injection hv with hv
    injection hv with hv _
    injection hv with hv
    rw [hrun, hv]
    rfl
  | some u =>
    rw [hf] at hrun hv
    injection hv with hv
    injection hv with hv _
    injection hv with hv
    rw [hrun, hv]
    rfl
theorem TabS.look (h : TabS P kt w m c f) (hk : P.underlying kt = some .string) {t e : TypeId} (ht : P.underlying t = some (.map kt e)) {z : Value} (hz : (zeroValue e).run P w = .ok z w) (s : ByteArray) (hs : s.size ≤ maxLen) :
    (Instr.lookup t (.map (some m)) (.string s) false).run P w = .ok ((f s.data.toList).getD z) w := by
  obtain ⟨D, ho, _, hT, hh, ha⟩ := h
  obtain ⟨v, ps, hrun, hv⟩ := ho.lookup (string_keyed hk) ht hz (show heldR z = some (.held z, []) from rfl) (keyS hk hs)
  rw [ha] at hv
  cases hf : f s.data.toList with
  | none =>
    rw [hf] at hv
    injection hv with hv
    injection hv with hv _
    injection hv with hv
    rw [hrun, hv]
    rfl
  | some u =>
    rw [hf] at hv
    injection hv with hv
    injection hv with hv _
    injection hv with hv
    rw [hrun, hv]
    rfl
theorem TabS.len (h : TabS P kt w m c f) {t e : TypeId} (ht : P.underlying t = some (.map kt e)) (ty : TypeId) : (Builtin.len_ #[t] ty #[.map (some m)]).run P w = .ok (.int .i64 (c : Int)) w := by
  obtain ⟨D, ho, hz, _⟩ := h
  have := ho.len ht ty
  rwa [hz] at this
theorem wpList_tabS (w : World) {ops : Array Oper} {rest : List Oper} {o : Oper} {a : Act} {Q : Exit → Act → World → Prop} (hg : o.guard = none) (x y z : Operand) {t e : TypeId} (hop : o.op = Op.mapUpdate t x y z)
    (hx : a.eval x = .map (some m)) (h : TabS P kt w m c f) (hk : P.underlying kt = some .string) (ht : P.underlying t = some (.map kt e)) (s : ByteArray) (v : Value) (hy : a.eval y = .string s) (hz : a.eval z = v) (hs : s.size ≤ maxLen) (hl : c < maxLen)
    (hC : ∀ w', TabS P kt w' m (cnt f c s.data.toList) (upd f s.data.toList v) → Fr (At1 m) w w' → wpList P ops Q rest (a.put o.dst undef) w') : wpList P ops Q (o :: rest) a w := by
  refine wpList_plain hg fun K' hK' => ?_
  obtain ⟨w', hrun, r1, r2⟩ := h.put hk ht hl s hs v
  unfold Oper.wp
  simp [execOp, hop, hx, hy, hz, hrun, Result.andThen]
  exact hK' _ _ (hC w' r1 r2)
end
end Go.My
