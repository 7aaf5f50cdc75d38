/- Replies, as they are in lists. Maps from numbers to values of any kind (functions, structs of them) that the call makes: of no program. A region that draws its order, by an invariant: of no program. A region that draws its order, whose operations and callees keep to a class of worlds: one walk of the text's order serves every order. Of no program. A region taken out of a function's code, so that a lemma can speak of it alone. Of no program. Contracts of package order: shapes. Contracts of package order: shapes, as a table. Contracts of package order: what the fields of a kind's orders may be. Contracts of package order: legs. Contracts of package order: rightLegs. Contracts of package order: Right. Contracts of package order: Right, its first region. Contracts of package order: Right. Orders as they come in and lie in memory: their readers. Contracts of package order: Same. Lists of orders in memory; replies in rows. Legs in another row: in lists. Legs as cells. Legs as cells; the first eight of them. What legs change, in lists: the total stays, each account grows by its leg. The document's own voucher: may legs be? The document's own voucher: Check. The document's own voucher: Make. The document's own holds: Take. -/
import Derived.Test.YtdooapnnohbjjaaGreatKit0
import Derived.Test.YtdooapnnohbjjaaGreatCoinsMath
import Derived.Test.YtdooapnnohbjjaaGreatLib
import Derived.Maps.Ext
import Derived.Maps.OwnSet
import Derived.Maps.OwnOps
import Derived.RegionTactic
import Derived.Deep.QuietTactic
import Derived.BigQuiet
import Derived.Test.YtdooapnnohbjjaaGreatLg
import Derived.Laws.EntriesVeiled
import Derived.Deep.DrawnRows
import Derived.Sort.Walk0
import Derived.Deep.RegionHeld3
import Derived.Test.YtdooapnnohbjjaaGreatOpen
import Derived.Test.YtdooapnnohbjjaaGreatVouMath
import Derived.Test.YtdooapnnohbjjaaGreatVou3
import Derived.Test.YtdooapnnohbjjaaGreatChartJ4
import Derived.Test.YtdooapnnohbjjaaGreatChartJ5
import Derived.Deep.DeepCutAuto
import Derived.StillTailTactics
import Derived.Test.YtdooapnnohbjjaaGreatHoldR2
namespace Go.Proofs.YtdooapnnohbjjaaGreat
open Go.RowKit Go.My Go.Maps
set_option linter.unusedSimpArgs false
set_option linter.unusedVariables false
/-- a reply -/
structure Rp where
  err : Int
  hv : Int
  st : Int
  num : Int
instance : DecidableEq Rp := fun a b =>
  if h : a.err = b.err ∧ a.hv = b.hv ∧ a.st = b.st ∧ a.num = b.num then isTrue (by cases a; cases b; simp_all) else isFalse (fun e => h (by subst e; exact ⟨rfl, rfl, rfl, rfl⟩))
def Rp.ok (r : Rp) : Prop := In64 r.err ∧ In64 r.hv ∧ In64 r.st ∧ In64 r.num
def Rp.val (r : Rp) : Value := .agg #[.int .i64 r.err, .int .i64 r.hv, .int .i64 r.st, .int .i64 r.num]
end Go.Proofs.YtdooapnnohbjjaaGreat

namespace Go.My
open Go Go.RowKit Go.Maps
set_option linter.unusedSimpArgs false
set_option linter.unusedVariables false

def heldR (v : Value) : Option (DataW Value × List MemPlace) := some (.held v, [])
theorem isKey_int (k : Int) : WideAt.IsKeyLit (.int .i64 k) := by unfold WideAt.IsKeyLit; exact True.intro
/-- block m is such a map: what it holds, by key -/
def Tab (P : Program) (kt : TypeId) (w : World) (m n : Nat) (f : Int → Option Value) : Prop :=
  ∃ D : DataW Value, w.ownsMap P kt heldR m n D ∧ Tidy D ∧ (∀ k, In64 k → Maps.has D (.int .i64 k) = (f k).isSome) ∧ ∀ k, In64 k → ∀ z, D.atKey (.int .i64 k) z = match f k with | some v => .held v | none => z
section
variable {P : Program} {kt : TypeId} {w w' : World} {m n : Nat} {f : Int → Option Value}
theorem Tab.lt (h : Tab P kt w m n f) : m < w.heap.size := by obtain ⟨D, h, _⟩ := h; exact h.lt
theorem Tab.fr {F : Nat → Prop} (h : Tab P kt w m n f) (hf : Fr F w w') (hn : ¬ F m) : Tab P kt w' m n f := by
  obtain ⟨D, ⟨es, clock, hb, r⟩, r2⟩ := h
  exact ⟨D, ⟨es, clock, (hf.block m (Array.getElem?_eq_some_iff.1 hb).1 hn).trans hb, r⟩, r2⟩
theorem Tab.made (w : World) : Tab P kt (w.alloc (.map #[] 0)) w.heap.size 0 (fun _ => none) :=
  ⟨.map [], World.ownsMap_made _ _ _ _, tidy_empty, fun _ _ => rfl, fun _ _ _ => rfl⟩
theorem key_i64 (hk : P.underlying kt = some (.int .i64)) {k : Int} (h : In64 k) : keyOf P kt (.int .i64 k) = some (.int .i64 k) := by
  refine keyOf_int_mk hk ?_
  unfold In64 at h
  unfold Lit.wf IntKind.min IntKind.max
  simp [IntKind.signed, IntKind.bits]
  omega
theorem Tab.put (h : Tab P kt w m n f) (hk : P.underlying kt = some (.int .i64)) {t e : TypeId} (ht : P.underlying t = some (.map kt e)) (hn : n < maxLen) (k : Int) (hK : In64 k) (v : Value) :
    ∃ w', (Instr.mapUpdate t (.map (some m)) (.int .i64 k) v).run P w = .ok () w' ∧ Tab P kt w' m (n + 1) (fun j => if j = k then some v else f j) ∧ Fr (At1 m) w w' := by
  obtain ⟨D, ho, hT, hh, ha⟩ := h
  obtain ⟨w', hrun, hown, hg⟩ := ho.update (int_keyed hk) ht hn (key_i64 hk hK) (show heldR v = some (.held v, []) from rfl)
  refine ⟨w', hrun, ⟨_, hown, hT.put (isKey_int k) _, fun j hj => ?_, fun j hj z => ?_⟩, ⟨hg.os, hg.tape, hg.output, hg.size, fun i hi hn => hg.block i hi (fun e => hn (by injection e with e))⟩⟩
  · by_cases e : j = k
    · subst e
      rw [has_put_same hT.isMap (isKey_int _)]
      simp
    · rw [has_put_other (fun e2 => e (by injection e2)), hh j hj]
      simp [e]
  · by_cases e : j = k
    · subst e
      rw [atKey_put_same hT.isMap (isKey_int _)]
      simp
    · rw [atKey_put_other (fun e2 => e (by injection e2)), ha j hj z]
      simp [e]
theorem Tab.look_ok (h : Tab P kt w m n f) (hk : P.underlying kt = some (.int .i64)) {t e : TypeId} (ht : P.underlying t = some (.map kt e)) {z : Value} (hz : (zeroValue e).run P w = .ok z w) (k : Int) (hK : In64 k) :
    (Instr.lookup t (.map (some m)) (.int .i64 k) true).run P w = .ok (.tuple #[(f k).getD z, .bool (f k).isSome]) w := by
  obtain ⟨D, ho, hT, hh, ha⟩ := h
  obtain ⟨v, ps, hrun, hv⟩ := ho.look_ok (int_keyed hk) ht hz (show heldR z = some (.held z, []) from rfl) (key_i64 hk hK)
  rw [hh k hK] at hrun
  rw [ha k hK] at hv
  cases hf : f k with
  | none =>
    rw [hf] at hrun hv
    injection hv with hv
    injection hv with hv _
    injection hv with hv
    rw [hrun, hv]
    rfl
  | some u =>
    rw [hf] at hrun hv
    injection hv with hv
    injection hv with hv _
    injection hv with hv
    rw [hrun, hv]
    rfl
theorem Tab.look (h : Tab P kt w m n f) (hk : P.underlying kt = some (.int .i64)) {t e : TypeId} (ht : P.underlying t = some (.map kt e)) {z : Value} (hz : (zeroValue e).run P w = .ok z w) (k : Int) (hK : In64 k) :
    (Instr.lookup t (.map (some m)) (.int .i64 k) false).run P w = .ok ((f k).getD z) w := by
  obtain ⟨D, ho, hT, hh, ha⟩ := h
  obtain ⟨v, ps, hrun, hv⟩ := ho.lookup (int_keyed hk) ht hz (show heldR z = some (.held z, []) from rfl) (key_i64 hk hK)
  rw [ha k hK] at hv
  cases hf : f k with
  | none =>
    rw [hf] at hv
    injection hv with hv
    injection hv with hv _
    injection hv with hv
    rw [hrun, hv]
    rfl
  | some u =>
    rw [hf] at hv
    injection hv with hv
    injection hv with hv _
    injection hv with hv
    rw [hrun, hv]
    rfl
theorem wpList_tab (w : World) {ops : Array Oper} {rest : List Oper} {o : Oper} {a : Act} {Q : Exit → Act → World → Prop} (hg : o.guard = none) (x y z : Operand) {t e : TypeId} (hop : o.op = Op.mapUpdate t x y z)
    (hx : a.eval x = .map (some m)) (h : Tab P kt w m n f) (hk : P.underlying kt = some (.int .i64)) (ht : P.underlying t = some (.map kt e)) (k : Int) (v : Value) (hy : a.eval y = .int .i64 k) (hz : a.eval z = v) (hK : In64 k) (hl : n < maxLen)
    (hC : ∀ w', Tab P kt w' m (n + 1) (fun j => if j = k then some v else f j) → Fr (At1 m) w w' → wpList P ops Q rest (a.put o.dst undef) w') : wpList P ops Q (o :: rest) a w := by
  refine wpList_plain hg fun K' hK' => ?_
  obtain ⟨w', hrun, r1, r2⟩ := h.put hk ht hl k hK v
  unfold Oper.wp
  simp [execOp, hop, hx, hy, hz, hrun, Result.andThen]
  exact hK' _ _ (hC w' r1 r2)
end
end Go.My

namespace Go.My
open Go Go.RowKit
set_option linter.unusedSimpArgs false
set_option linter.unusedVariables false

/-- what has not come up yet -/
def unl (l : Array Bool) : Nat := l.countP (fun b => b == false)
theorem unl_set {l : Array Bool} {i : Nat} (h : l.getD i true = false) : unl (l.setIfInBounds i true) + 1 = unl l := by
  have hlt : i < l.size := by
    rcases Nat.lt_or_ge i l.size with h' | h'
    · exact h'
    · simp [h'] at h
  have hv : l[i] = false := by simpa [hlt] using h
  have e : l.setIfInBounds i true = l.set i true hlt := by simp [Array.setIfInBounds, hlt]
  unfold unl
  rw [e, Array.countP_set hlt, hv]
  simp only [beq_self_eq_true, if_true]
  have hpos : 0 < l.countP (fun b => b == false) := Array.countP_pos_iff.2 ⟨l[i], Array.getElem_mem hlt, by rw [hv]; rfl⟩
  have : (true == false) = false := rfl
  rw [this]
  simp only [Bool.false_eq_true, if_false]
  omega
theorem unl_zero {l : Array Bool} (h : unl l = 0) (i : Nat) : l.getD i true = true := by
  rcases Nat.lt_or_ge i l.size with h' | h'
  · have := Array.countP_eq_zero.1 h l[i] (Array.getElem_mem h')
    simpa [h'] using this
  · simp [h']
theorem unl_least {l : Array Bool} (h : unl l ≠ 0) : ∃ i, i < l.size ∧ l.getD i true = false ∧ ∀ j, j < i → l.getD j false = true := by
  obtain ⟨b, hb, hb2⟩ := Array.countP_pos_iff.1 (Nat.pos_of_ne_zero h)
  obtain ⟨k, hk, rfl⟩ := Array.getElem_of_mem hb
  have hk2 : l.getD k true = false := by simpa [hk] using hb2
  clear hb hb2 h
  induction k using Nat.strongRecOn with
  | _ k ih =>
    by_cases hx : ∃ j, j < k ∧ l.getD j false = false
    · obtain ⟨j, hj, hjf⟩ := hx
      have hjl : j < l.size := by omega
      exact ih j hj hjl (by simpa [hjl] using hjf)
    · refine ⟨k, hk, hk2, fun j hj => ?_⟩
      cases hq : l.getD j false with
      | true => rfl
      | false => exact absurd ⟨j, hj, hq⟩ hx
section
variable {P : Program} {ops : Array Oper} {Q : Exit → Act → World → Prop} {md : Region.Mode}
theorem wpAny_inv (Inv : Array Bool → Act → World → Prop) (hsz : ∀ l a w, Inv l a w → l.size = ops.size)
    (hback : ∀ i o, ops[i]? = some o → ∀ e ∈ o.after, Region.binds md e = true → e.on < i)
    (hstep : ∀ l a w i o, Inv l a w → ops[i]? = some o → l.getD i true = false → (∀ e ∈ o.after, Region.binds md e = true → l.getD e.on false = true) → wpOp P ops Q i (Inv (l.setIfInBounds i true)) a w)
    (hend : ∀ l a w, Inv l a w → (∀ i, i < ops.size → l.getD i false = true) → Q .normal a w) :
    ∀ fuel l a w, Inv l a w → unl l = fuel → wpAny P md ops Q fuel l a w := by
  intro fuel
  induction fuel with
  | zero =>
    intro l a w h hu
    refine ⟨?_, hend l a w h fun i hi => ?_⟩
    · cases hr : Region.ready md ops l with
      | nil => rfl
      | cons j t =>
        have hj : j ∈ Region.ready md ops l := by rw [hr]; exact List.mem_cons_self
        have h1 := (mem_ready.1 hj).1
        rw [unl_zero hu j] at h1
        cases h1
    · have h1 := unl_zero hu i
      have h2 : i < l.size := by rw [hsz l a w h]; exact hi
      simpa [h2] using h1
  | succ fuel ih =>
    intro l a w h hu
    refine ⟨fun hr => ?_, fun i hi => ?_⟩
    · obtain ⟨i, hi, hf, hlt⟩ := unl_least (l := l) (by omega)
      have hio : i < ops.size := by rw [← hsz l a w h]; exact hi
      have : i ∈ Region.ready md ops l := mem_ready.2 ⟨hf, ops[i], Array.getElem?_eq_getElem hio, fun e he hb => hlt _ (hback i _ (Array.getElem?_eq_getElem hio) e he hb)⟩
      rw [hr] at this
      cases this
    · obtain ⟨hf, o, ho, hall⟩ := mem_ready.1 hi
      refine wpOp_mono (fun a' w' h' => ih _ _ _ h' ?_) (hstep l a w i o h ho hf hall)
      have := unl_set hf
      omega
theorem wp_region_inv {id : Nat} {a : Act} {w : World} (hm : P.follows .mixedOrders = true) (Inv : Array Bool → Act → World → Prop) (hsz : ∀ l a w, Inv l a w → l.size = ops.size)
    (hback : ∀ i o, ops[i]? = some o → ∀ e ∈ o.after, Region.binds .any e = true → e.on < i)
    (hstep : ∀ l a w i o, Inv l a w → ops[i]? = some o → l.getD i true = false → (∀ e ∈ o.after, Region.binds .any e = true → l.getD e.on false = true) → wpOp P ops Q i (Inv (l.setIfInBounds i true)) a w)
    (hend : ∀ l a w, Inv l a w → (∀ i, i < ops.size → l.getD i false = true) → Q .normal a w)
    (h0 : Inv (Array.replicate ops.size false) a w.drew) : (Code.region id ops true).wp P Q a w := by
  refine wp_region_any hm (wpAny_inv Inv hsz hback hstep hend _ _ _ _ h0 ?_)
  unfold unl
  rw [Array.countP_replicate]
  simp
end
end Go.My

namespace Go.My
open Go
set_option linter.unusedVariables false

/-- a world of a class -/
structure WIn (D : World → Prop) where
  W : World
  h : D W
theorem wp_region_in {P : Program} {D : World → Prop} {id : Nat} {Q : Exit → Act → World → Prop} {a : Act} {w : World} {l : List Oper} (hm : P.follows .mixedOrders = true) (hB : Region.lexB .any l.toArray = true) (hD : D w.drew)
    (h : wpQuiet P l.toArray (fun w' => ∃ x : WIn D, w' = x.W) (fun a' => ∀ w', (∃ x : WIn D, w' = x.W) → Q .normal a' w') l a) : (Code.region id l.toArray true).wp P Q a w :=
  wp_region_quiet (C := fun w' => ∃ x : WIn D, w' = x.W) hm hB ⟨⟨_, hD⟩, rfl⟩ (by simpa using h)
/-- a callee that keeps to the class -/
theorem Calls.in_of {P : Program} {D : World → Prop} {f : FuncId} {args : Array Value} {v : Value} (x : WIn D) (h : ∀ W, D W → Calls P f args W fun e w' => e = .returned v ∧ D w') :
    Calls P f args x.W fun e w' => e = .returned v ∧ ∃ y : WIn D, w' = y.W :=
  (h x.W x.h).mono fun _ w' h => ⟨h.1, ⟨w', h.2⟩, rfl⟩
end Go.My

namespace Go.My
open Go
/-- region number n of a code -/
def findR (n : Nat) : Code → Option Code
  | .region i ops d => if i = n then some (.region i ops d) else none
  | .seq a b => match findR n a with
    | some c => some c
    | none => findR n b
  | .cond _ a b => match findR n a with
    | some c => some c
    | none => findR n b
  | .block _ c => findR n c
  | .loop c => findR n c
  | .scope c => findR n c
  | _ => none
def opsOf : Code → Array Oper
  | .region _ o _ => o
  | _ => #[]
def regOf (n : Nat) (f : Func) : Code := (f.body.bind (findR n)).getD .skip
end Go.My

namespace Go.Proofs.YtdooapnnohbjjaaGreat
open Go.RowKit Go.My Go.Maps
set_option linter.unusedSimpArgs false
set_option linter.unusedVariables false

def fnV (f : FuncId) : Value := .func (.func f) #[] #[]
/-- the functions that look at the fields of a kind's orders -/
def shp (a b c d e f g : FuncId) : Array Value := #[fnV a, fnV b, fnV c, fnV d, fnV e, fnV f, fnV g]

/-- what a slot holds when so much is done -/
def shSlot (p : Nat) (E : Array Value) (g : Nat → Nat) (L : Nat → Bool) (k : Nat) : Value :=
  if k = 0 then .map none else if k = 1 then .pointer (some ⟨p, 0, none⟩) else if k < 9 then (if L (k + 5) then .pointer (some ⟨g (k - 2), 0, none⟩) else undef)
  else if k = 9 then .agg E else if k < 17 then (if L (k - 10) then .agg E else undef) else undef
def zs7 : Array Value := #[.nilFunc, .nilFunc, .nilFunc, .nilFunc, .nilFunc, .nilFunc, .nilFunc]
structure ShInv (w0 : World) (p : Nat) (E : Array Value) (l : Array Bool) (a : Act) (w : World) : Prop where
  size : l.size = 21
  len : a.tmps.size = 42
  defs : a.defers = []
  src : Blk w p 98 E
  fr : Fr No w0 w
  dep : ∀ j, j < 7 → l.getD (14 + j) false = true → l.getD (7 + j) false = true
  mem : ∃ g : Nat → Nat, (∀ k, k < 42 → a.tmps[k]? = some (shSlot p E g (fun i => l.getD i false) k)) ∧
    (∀ j, j < 7 → l.getD (7 + j) false = true → w0.heap.size ≤ g j ∧ Blk w (g j) 98 (if l.getD (14 + j) false = true then E else zs7)) ∧
    (∀ j k, j < 7 → k < 7 → l.getD (7 + j) false = true → l.getD (7 + k) false = true → g j = g k → j = k)

theorem ex_load {ρ : Operand → Value} {o : Oper} {x : Operand} {p : Nat} {w : World} {c0 c1 c2 c3 c4 c5 c6 : Value} (hop : o.op = .load 98 x) (hx : ρ x = .pointer (some ⟨p, 0, none⟩)) (hb : Blk w p 98 #[c0, c1, c2, c3, c4, c5, c6]) :
    (execOp ρ o).run Tryz.prog w = .ok (.value (.agg #[c0, c1, c2, c3, c4, c5, c6])) w := by
  have h0 := hb.cell 0
  have h1 := hb.cell 1
  have h2 := hb.cell 2
  have h3 := hb.cell 3
  have h4 := hb.cell 4
  have h5 := hb.cell 5
  have h6 := hb.cell 6
  simp only [List.getElem?_toArray, List.getElem?_cons_zero, List.getElem?_cons_succ] at h0 h1 h2 h3 h4 h5 h6
  unfold execOp
  rw [hop]
  simp [hx, go_sem, h0, h1, h2, h3, h4, h5, h6]
theorem ex_alloc {ρ : Operand → Value} {o : Oper} {w : World} (hop : o.op = .alloc 98) :
    (execOp ρ o).run Tryz.prog w = .ok (.value (.pointer (some ⟨w.heap.size, 0, none⟩))) (w.alloc (.cells zs7 98)) := by
  unfold execOp
  rw [hop]
  simp [go_sem, zs7]
noncomputable def sh2s : { c : Code // regOf 2 Tryz.f38 = c } := ⟨_, by conv => lhs; whnf⟩
noncomputable def sh2 : Code := sh2s.1
def okB (i : Nat) (o : Oper) : Bool :=
  o.after.all (fun e => !Region.binds .any e || decide (e.on < i)) &&
  match o.op, o.dst, o.guard with
  | .load t (.tmp x), some d, none => decide (i < 7) && decide (t = 98) && decide (x = 1) && decide (d = 10 + i)
  | .alloc t, some d, none => decide (7 ≤ i) && decide (i < 14) && decide (t = 98) && decide (d + 5 = i)
  | .store t (.tmp x) (.tmp y), none, none => decide (14 ≤ i) && decide (i < 21) && decide (t = 98) && decide (x + 12 = i) && decide (y + 4 = i) && o.after.toList.any (fun e => decide (e.on + 7 = i) && Region.binds .any e) && o.after.toList.any (fun e => decide (e.on + 14 = i) && Region.binds .any e)
  | _, _, _ => false
theorem sh2_ok : (opsOf sh2).toList.zipIdx.all (fun x => okB x.2 x.1) = true := by kernel_rfl
theorem sh2_size : (opsOf sh2).size = 21 := by kernel_rfl
theorem sh2_at {i : Nat} {o : Oper} (h : (opsOf sh2)[i]? = some o) : okB i o = true := by
  have h1 := List.all_eq_true.1 sh2_ok (o, i) (by
    rw [List.mem_zipIdx_iff_getElem?]
    simpa using h)
  exact h1
theorem okB_back {i : Nat} {o : Oper} (h : okB i o = true) : ∀ e ∈ o.after, Region.binds .any e = true → e.on < i := by
  intro e he hb
  unfold okB at h
  rw [Bool.and_eq_true, Array.all_eq_true_iff_forall_mem] at h
  have := h.1 e he
  rw [hb] at this
  simpa using this
theorem tmp5 (d i : Nat) (h : d + 5 = i) (h7 : 7 ≤ i) : d = i - 7 + 2 := by omega
theorem tmp12 (d i : Nat) (h : d + 12 = i) (h7 : 14 ≤ i) : d = i - 14 + 2 := by omega
theorem tmp4 (d i : Nat) (h : d + 4 = i) (h7 : 14 ≤ i) : d = 10 + (i - 14) := by omega
/-- the three kinds of operations -/
theorem okB_kind {i : Nat} {o : Oper} (h : okB i o = true) : o.guard = none ∧
    ((i < 7 ∧ o.op = .load 98 (.tmp 1) ∧ o.dst = some (10 + i)) ∨
     (∃ j, j < 7 ∧ i = 7 + j ∧ o.op = .alloc 98 ∧ o.dst = some (j + 2)) ∨
     (∃ j, j < 7 ∧ i = 14 + j ∧ o.op = .store 98 (.tmp (j + 2)) (.tmp (10 + j)) ∧ o.dst = none ∧ (∃ e ∈ o.after, e.on = 7 + j ∧ Region.binds .any e = true) ∧ ∃ e ∈ o.after, e.on = j ∧ Region.binds .any e = true)) := by
  unfold okB at h
  rw [Bool.and_eq_true] at h
  obtain ⟨-, h⟩ := h
  split at h
  · rename_i t x d hop hd hg
    simp only [Bool.and_eq_true, decide_eq_true_eq] at h
    obtain ⟨⟨⟨h1, rfl⟩, rfl⟩, rfl⟩ := h
    exact ⟨hg, .inl ⟨h1, hop, hd⟩⟩
  · rename_i t d hop hd hg
    simp only [Bool.and_eq_true, decide_eq_true_eq] at h
    obtain ⟨⟨⟨h1, h2⟩, rfl⟩, h3⟩ := h
    exact ⟨hg, .inr (.inl ⟨i - 7, by omega, by omega, hop, by rw [hd, show d = i - 7 + 2 from tmp5 d i h3 h1]⟩)⟩
  · rename_i t x y hop hd hg
    simp only [Bool.and_eq_true, decide_eq_true_eq, List.any_eq_true, Array.mem_toList_iff] at h
    obtain ⟨⟨⟨⟨⟨⟨h1, h2⟩, rfl⟩, h3⟩, h4⟩, e1, he1, h5, h6⟩, e2, he2, h7, h8⟩ := h
    refine ⟨hg, .inr (.inr ⟨i - 14, by omega, by omega, ?_, hd, ⟨e1, he1, by omega, h6⟩, e2, he2, by omega, h8⟩)⟩
    rw [hop, show x = i - 14 + 2 from tmp12 x i h3 h1, show y = 10 + (i - 14) from tmp4 y i h4 h1]
  · cases h
theorem getD_set (l : Array Bool) (i n : Nat) (hi : i < l.size) : (l.setIfInBounds i true).getD n false = ((n == i) || l.getD n false) := by
  by_cases e : n = i
  · subst e
    simp [hi]
  · rw [getD_set_ne false (fun h => e h.symm)]
    simp [e]
theorem slot_other {p : Nat} {E : Array Value} {g g' : Nat → Nat} {L L' : Nat → Bool} {k : Nat} (h1 : ∀ n, n < 21 → (n + 10 = k ∧ k < 17) ∨ (n = k + 5 ∧ 2 ≤ k ∧ k < 9) → L' n = L n) (h2 : ∀ n, n + 2 = k → g' n = g n) : shSlot p E g' L' k = shSlot p E g L k := by
  unfold shSlot
  by_cases c0 : k = 0
  · rw [if_pos c0, if_pos c0]
  rw [if_neg c0, if_neg c0]
  by_cases c1 : k = 1
  · rw [if_pos c1, if_pos c1]
  rw [if_neg c1, if_neg c1]
  by_cases c9 : k < 9
  · rw [if_pos c9, if_pos c9, h1 (k + 5) (by omega) (.inr ⟨rfl, by omega, by omega⟩), h2 (k - 2) (by omega)]
  rw [if_neg c9, if_neg c9]
  by_cases d9 : k = 9
  · rw [if_pos d9, if_pos d9]
  rw [if_neg d9, if_neg d9]
  by_cases c17 : k < 17
  · rw [if_pos c17, if_pos c17, h1 (k - 10) (by omega) (.inl ⟨by omega, by omega⟩)]
  rw [if_neg c17, if_neg c17]
theorem put_at {a : Act} {d k : Nat} {v : Value} (hd : d < a.tmps.size) : (a.put (some d) v).tmps[k]? = if k = d then some v else a.tmps[k]? := by
  unfold Act.put
  simp only
  by_cases e : k = d
  · subst e
    simp [hd]
  · rw [if_neg e, Array.getElem?_setIfInBounds_ne (fun h => e h.symm)]
theorem eval_at {a : Act} {k : Nat} {v : Value} (h : a.tmps[k]? = some v) : a.eval (.tmp k) = v := by
  unfold Act.eval
  simp [h]
theorem oneF (c0 c1 c2 c3 c4 c5 c6 : FuncId) : (shp c0 c1 c2 c3 c4 c5 c6).all (·.oneCell') = true := by simp [shp, fnV, Value.oneCell']
theorem sh_step {w0 : World} {p : Nat} {Q : Exit → Act → World → Prop} {c0 c1 c2 c3 c4 c5 c6 : FuncId} (hp : p < w0.heap.size) (l : Array Bool) (a : Act) (w : World) (i : Nat) (o : Oper)
    (h : ShInv w0 p (shp c0 c1 c2 c3 c4 c5 c6) l a w) (ho : (opsOf sh2)[i]? = some o) (hf : l.getD i true = false) (hall : ∀ e ∈ o.after, Region.binds .any e = true → l.getD e.on false = true) :
    wpOp Tryz.prog (opsOf sh2) Q i (ShInv w0 p (shp c0 c1 c2 c3 c4 c5 c6) (l.setIfInBounds i true)) a w := by
  obtain ⟨hg, hk⟩ := okB_kind (sh2_at ho)
  have hlt : i < l.size := by
    have := (Array.getElem?_eq_some_iff.1 ho).1
    rw [sh2_size] at this
    rw [h.size]
    exact this
  have hff : l.getD i false = false := by simpa [hlt] using hf
  obtain ⟨g, m1, m2, m3⟩ := h.mem
  have hL := fun n => getD_set l i n hlt
  refine wpOp_step ho fun K' hK => ?_
  rw [if_pos (by unfold Region.wanted; rw [hg])]
  rcases hk with ⟨hi, hop, hd⟩ | ⟨j, hj, rfl, hop, hd⟩ | ⟨j, hj, rfl, hop, hd, ⟨e1, he1, he2, he3⟩, e4, he4, he5, he6⟩
  · unfold Oper.wp
    rw [ex_load hop (eval_at (m1 1 (by omega))) h.src, Oper.upon_value, hd]
    refine hK _ _ ⟨by simpa using h.size, by simpa [Act.put] using h.len, by simpa [Act.put] using h.defs, h.src, h.fr, fun j hj hl => ?_, g, fun k hk => ?_, fun j hj hl => ?_, fun j k hj hk h1 h2 => ?_⟩
    · rw [hL, show (14 + j == i) = false from beq_eq_false_iff_ne.2 (by omega), Bool.false_or] at hl
      rw [hL, h.dep j hj hl, Bool.or_true]
    · rw [put_at (by rw [h.len]; omega)]
      by_cases e : k = 10 + i
      · rw [if_pos e]
        unfold shSlot
        rw [if_neg (by omega), if_neg (by omega), if_neg (by omega), if_neg (by omega), if_pos (by omega)]
        simp only [hL]
        rw [show k - 10 = i by omega]
        simp [shp]
      · rw [if_neg e, m1 k hk]
        congr 1
        refine (slot_other (fun n hn hn2 => ?_) (fun _ _ => rfl)).symm
        show (l.setIfInBounds i true).getD n false = _
        rw [hL]
        have : (n == i) = false := beq_eq_false_iff_ne.2 (by omega)
        rw [this]
        rfl
    · rw [hL] at hl
      have : (7 + j == i) = false := beq_eq_false_iff_ne.2 (by omega)
      rw [this, Bool.false_or] at hl
      obtain ⟨r1, r2⟩ := m2 j hj hl
      rw [hL, show (14 + j == i) = false from beq_eq_false_iff_ne.2 (by omega), Bool.false_or]
      exact ⟨r1, r2⟩
    · rw [hL, show (7 + j == i) = false from beq_eq_false_iff_ne.2 (by omega), Bool.false_or] at h1
      rw [hL, show (7 + k == i) = false from beq_eq_false_iff_ne.2 (by omega), Bool.false_or] at h2
      exact m3 j k hj hk h1 h2
  · unfold Oper.wp
    rw [ex_alloc hop, Oper.upon_value, hd]
    have h14 : l.getD (14 + j) false = false := by
      cases hq : l.getD (14 + j) false with
      | false => rfl
      | true => rw [h.dep j hj hq] at hff; cases hff
    have hsz := h.fr.size
    refine hK _ _ ⟨by simpa using h.size, by simpa [Act.put] using h.len, by simpa [Act.put] using h.defs, h.src.alloc _, h.fr.alloc _, fun k hk hl => ?_, fun k => if k = j then w.heap.size else g k, fun k hk => ?_, fun k hk hl => ?_, fun k n hk hn h1 h2 he => ?_⟩
    · rw [hL, show (14 + k == 7 + j) = false from beq_eq_false_iff_ne.2 (by omega), Bool.false_or] at hl
      rw [hL, h.dep k hk hl]
      simp
    · rw [put_at (by rw [h.len]; omega)]
      by_cases e : k = j + 2
      · rw [if_pos e]
        unfold shSlot
        rw [if_neg (by omega), if_neg (by omega), if_pos (by omega)]
        simp only [hL]
        rw [show k + 5 = 7 + j by omega]
        simp [show k - 2 = j by omega]
      · rw [if_neg e, m1 k hk]
        congr 1
        refine (slot_other (fun n hn hn2 => ?_) (fun n hn => ?_)).symm
        · show (l.setIfInBounds (7 + j) true).getD n false = _
          rw [hL]
          have : (n == 7 + j) = false := beq_eq_false_iff_ne.2 (by omega)
          rw [this]
          rfl
        · show (if n = j then w.heap.size else g n) = g n
          rw [if_neg (by omega)]
    · rw [hL, show (14 + k == 7 + j) = false from beq_eq_false_iff_ne.2 (by omega), Bool.false_or]
      show w0.heap.size ≤ (if k = j then w.heap.size else g k) ∧ Blk _ (if k = j then w.heap.size else g k) _ _
      by_cases e : k = j
      · subst e
        rw [if_pos rfl, h14]
        exact ⟨hsz, Blk.new w _ _⟩
      · rw [if_neg e]
        rw [hL, show (7 + k == 7 + j) = false from beq_eq_false_iff_ne.2 (by omega), Bool.false_or] at hl
        obtain ⟨r1, r2⟩ := m2 k hk hl
        exact ⟨r1, r2.alloc _⟩
    · have ho : ∀ k, k < 7 → k ≠ j → (l.setIfInBounds (7 + j) true).getD (7 + k) false = true → g k < w.heap.size ∧ l.getD (7 + k) false = true := fun k hk hne hl => by
        rw [hL, show (7 + k == 7 + j) = false from beq_eq_false_iff_ne.2 (by omega), Bool.false_or] at hl
        exact ⟨(m2 k hk hl).2.lt, hl⟩
      simp only at he
      by_cases e1 : k = j
      · by_cases e2 : n = j
        · omega
        · rw [if_pos e1, if_neg e2] at he
          have := (ho n hn e2 h2).1
          omega
      · by_cases e2 : n = j
        · rw [if_neg e1, if_pos e2] at he
          have := (ho k hk e1 h1).1
          omega
        · rw [if_neg e1, if_neg e2] at he
          exact m3 k n hk hn (ho k hk e1 h1).2 (ho n hn e2 h2).2 he
  · have l7 : l.getD (7 + j) false = true := by rw [← he2]; exact hall e1 he1 he3
    have l0 : l.getD j false = true := by rw [← he5]; exact hall e4 he4 he6
    obtain ⟨r1, r2⟩ := m2 j hj l7
    rw [hff] at r2
    have x1 : a.eval (.tmp (j + 2)) = .pointer (some ⟨g j, 0, none⟩) := by
      refine eval_at ((m1 (j + 2) (by omega)).trans ?_)
      unfold shSlot
      rw [if_neg (by omega), if_neg (by omega), if_pos (by omega), show j + 2 + 5 = 7 + j by omega]
      simp [l7, show j + 2 - 2 = j by omega]
    have x2 : a.eval (.tmp (10 + j)) = .agg (shp c0 c1 c2 c3 c4 c5 c6) := by
      refine eval_at ((m1 (10 + j) (by omega)).trans ?_)
      unfold shSlot
      rw [if_neg (by omega), if_neg (by omega), if_neg (by omega), if_neg (by omega), if_pos (by omega), show 10 + j - 10 = j by omega]
      simp [l0]
    refine wp_store_row 98 _ _ hop (g j) (shp c0 c1 c2 c3 c4 c5 c6) x1 x2 98 zs7 r2 (by kernel_rfl) rfl (oneF _ _ _ _ _ _ _) ?_
    have hpg : p ≠ g j := by omega
    have hfr : Fr (At1 (g j)) w (w.setRow (g j) (shp c0 c1 c2 c3 c4 c5 c6)) := Fr.setRow (S := At1 (g j)) (Fr.refl _ w) (fun _ => rfl) _
    rw [hd]
    refine hK _ _ ⟨by simpa using h.size, h.len, h.defs, h.src.fr hfr hpg, h.fr.setRow (fun hlt => by omega) _, fun k hk hl => ?_, g, fun k hk => ?_, fun k hk hl => ?_, fun k n hk hn h1 h2 he => ?_⟩
    · rw [hL, show (7 + k == 14 + j) = false from beq_eq_false_iff_ne.2 (by omega), Bool.false_or]
      by_cases e : k = j
      · subst e; exact l7
      · rw [hL, show (14 + k == 14 + j) = false from beq_eq_false_iff_ne.2 (by omega), Bool.false_or] at hl
        exact h.dep k hk hl
    · show a.tmps[k]? = _
      rw [m1 k hk]
      congr 1
      refine (slot_other (fun n hn hn2 => ?_) (fun _ _ => rfl)).symm
      show (l.setIfInBounds (14 + j) true).getD n false = _
      rw [hL]
      have : (n == 14 + j) = false := beq_eq_false_iff_ne.2 (by omega)
      rw [this]
      rfl
    · rw [hL, show (7 + k == 14 + j) = false from beq_eq_false_iff_ne.2 (by omega), Bool.false_or] at hl
      obtain ⟨s1, s2⟩ := m2 k hk hl
      refine ⟨s1, ?_⟩
      by_cases e : k = j
      · subst e
        rw [hL, show (14 + k == 14 + k) = true from beq_self_eq_true _, Bool.true_or, if_pos rfl]
        exact setRow_heap w (g k) _ _ _ _ r2
      · rw [hL, show (14 + k == 14 + j) = false from beq_eq_false_iff_ne.2 (by omega), Bool.false_or]
        exact s2.fr hfr (fun e2 => e (m3 k j hk hj hl l7 e2))
    · rw [hL, show (7 + k == 14 + j) = false from beq_eq_false_iff_ne.2 (by omega), Bool.false_or] at h1
      rw [hL, show (7 + n == 14 + j) = false from beq_eq_false_iff_ne.2 (by omega), Bool.false_or] at h2
      exact m3 k n hk hn h1 h2 he

def shFrame (p : Nat) (E : Array Value) (g : Nat → Nat) : Array Value :=
  #[.map none, .pointer (some ⟨p, 0, none⟩), .pointer (some ⟨g 0, 0, none⟩), .pointer (some ⟨g 1, 0, none⟩), .pointer (some ⟨g 2, 0, none⟩), .pointer (some ⟨g 3, 0, none⟩), .pointer (some ⟨g 4, 0, none⟩), .pointer (some ⟨g 5, 0, none⟩), .pointer (some ⟨g 6, 0, none⟩), .agg E,
    .agg E, .agg E, .agg E, .agg E, .agg E, .agg E, .agg E, undef, undef, undef, undef, undef, undef, undef, undef, undef, undef, undef, undef, undef, undef, undef, undef, undef, undef, undef, undef, undef, undef, undef, undef, undef]
theorem sh_region {w : World} {p : Nat} {Q : Exit → Act → World → Prop} {c0 c1 c2 c3 c4 c5 c6 : FuncId} (hb : Blk w p 98 (shp c0 c1 c2 c3 c4 c5 c6))
    (hQ : ∀ (g : Nat → Nat) w', (∀ j, j < 7 → w.heap.size ≤ g j ∧ Blk w' (g j) 98 (shp c0 c1 c2 c3 c4 c5 c6)) → (∀ j k, j < 7 → k < 7 → g j = g k → j = k) → Fr No w w' → Q .normal ⟨shFrame p (shp c0 c1 c2 c3 c4 c5 c6) g, []⟩ w') :
    Code.wp Tryz.prog sh2 Q ⟨#[.map none, .pointer (some ⟨p, 0, none⟩), undef, undef, undef, undef, undef, undef, undef, .agg (shp c0 c1 c2 c3 c4 c5 c6),
      undef, undef, undef, undef, undef, undef, undef, undef, undef, undef, undef, undef, undef, undef, undef, undef, undef, undef, undef, undef, undef, undef, undef, undef, undef, undef, undef, undef, undef, undef, undef, undef], []⟩ w := by
  have e : sh2 = .region 2 (opsOf sh2) true := by kernel_rfl
  rw [e]
  refine wp_region_inv (by kernel_rfl) (ShInv w p (shp c0 c1 c2 c3 c4 c5 c6)) (fun l a w' h => by rw [h.size, sh2_size]) (fun i o ho => okB_back (sh2_at ho)) (fun l a w' i o h ho hf hall => sh_step hb.lt l a w' i o h ho hf hall) (fun l a w' h hl => ?_) ?_
  · rw [sh2_size] at hl
    obtain ⟨g, m1, m2, m3⟩ := h.mem
    have ha : a = ⟨shFrame p (shp c0 c1 c2 c3 c4 c5 c6) g, []⟩ := by
      obtain ⟨ts, ds⟩ := a
      have hd := h.defs
      have hlen := h.len
      simp only at hd hlen m1
      subst hd
      congr 1
      refine Array.ext (by rw [hlen]; rfl) fun k hk hk2 => ?_
      have h1 := m1 k (by omega)
      rw [Array.getElem?_eq_getElem hk] at h1
      injection h1 with h1
      rw [h1]
      have hk3 : k < 42 := by omega
      clear h1 hk m1 m2 m3 hQ h e hb
      match k, hk3 with
      | 0, _ | 1, _ | 9, _ | 17, _ | 18, _ | 19, _ | 20, _ | 21, _ | 22, _ | 23, _ | 24, _ | 25, _ | 26, _ | 27, _ | 28, _ | 29, _ | 30, _ | 31, _ | 32, _ | 33, _ | 34, _ | 35, _ | 36, _ | 37, _ | 38, _ | 39, _ | 40, _ | 41, _ => rfl
      | 2, _ => simp [shSlot, shFrame, hl 7 (by omega)]
      | 3, _ => simp [shSlot, shFrame, hl 8 (by omega)]
      | 4, _ => simp [shSlot, shFrame, hl 9 (by omega)]
      | 5, _ => simp [shSlot, shFrame, hl 10 (by omega)]
      | 6, _ => simp [shSlot, shFrame, hl 11 (by omega)]
      | 7, _ => simp [shSlot, shFrame, hl 12 (by omega)]
      | 8, _ => simp [shSlot, shFrame, hl 13 (by omega)]
      | 10, _ => simp [shSlot, shFrame, hl 0 (by omega)]
      | 11, _ => simp [shSlot, shFrame, hl 1 (by omega)]
      | 12, _ => simp [shSlot, shFrame, hl 2 (by omega)]
      | 13, _ => simp [shSlot, shFrame, hl 3 (by omega)]
      | 14, _ => simp [shSlot, shFrame, hl 4 (by omega)]
      | 15, _ => simp [shSlot, shFrame, hl 5 (by omega)]
      | 16, _ => simp [shSlot, shFrame, hl 6 (by omega)]
      | n + 42, h => exact absurd h (by omega)
    rw [ha]
    refine hQ g w' (fun j hj => ?_) (fun j k hj hk => m3 j k hj hk (hl _ (by omega)) (hl _ (by omega))) h.fr
    have h2 := m2 j hj (hl _ (by omega))
    rw [hl (14 + j) (by omega)] at h2
    exact h2
  · rw [sh2_size]
    have hl0 : ∀ n, (Array.replicate 21 false).getD n false = false := fun n => by
      rcases Nat.lt_or_ge n 21 with h | h
      · simp [h]
      · simp [h]
    refine ⟨by simp, rfl, rfl, hb.drew, (Fr.refl No w).drew, fun j hj hl => (by rw [hl0] at hl; cases hl), fun _ => 0, fun k hk => ?_, fun j hj hl => (by rw [hl0] at hl; cases hl), fun j k hj hk hl => (by rw [hl0] at hl; cases hl)⟩
    unfold shSlot
    simp only [hl0]
    match k, hk with
    | 0, _ | 1, _ | 2, _ | 3, _ | 4, _ | 5, _ | 6, _ | 7, _ | 8, _ | 9, _ | 10, _ | 11, _ | 12, _ | 13, _ | 14, _ | 15, _ | 16, _ | 17, _ | 18, _ | 19, _ | 20, _ | 21, _ | 22, _ | 23, _ | 24, _ | 25, _ | 26, _ | 27, _ | 28, _ | 29, _ | 30, _ | 31, _ | 32, _ | 33, _ | 34, _ | 35, _ | 36, _ | 37, _ | 38, _ | 39, _ | 40, _ | 41, _ => rfl
    | n + 42, h => exact absurd h (by omega)
end Go.Proofs.YtdooapnnohbjjaaGreat

namespace Go.Proofs.YtdooapnnohbjjaaGreat
open Go.RowKit Go.My Go.Maps
set_option linter.unusedSimpArgs false
set_option linter.unusedVariables false

/-- the functions that look at the fields of a kind's orders -/
def shapeF (k : Int) : Option Value :=
  if k = 7 then some (.agg (shp 70 64 65 66 67 68 69))
  else if k = 6 then some (.agg (shp 63 64 65 66 73 68 69))
  else if k = 5 then some (.agg (shp 70 64 65 66 67 77 69))
  else if k = 4 then some (.agg (shp 70 76 75 66 73 77 69))
  else if k = 3 then some (.agg (shp 70 64 75 66 67 68 69))
  else if k = 2 then some (.agg (shp 63 64 65 72 73 68 74))
  else if k = 1 then some (.agg (shp 70 64 71 66 67 68 69))
  else none
/-- seven structs of their own -/
def S7 (w : World) (g : Nat → Nat) (F : Nat → Array Value) : Prop := ∀ j, j < 7 → Blk w (g j) 98 (F j)
def Inj7 (g : Nat → Nat) : Prop := ∀ j k, j < 7 → k < 7 → g j = g k → j = k
theorem S7.set_ {w : World} {g : Nat → Nat} {F : Nat → Array Value} (h : S7 w g F) (hi : Inj7 g) (i k : Nat) (hk : i < 7) (v : Value) : S7 (w.setCell ⟨g i, k, none⟩ v) g (fun j => if j = i then (F j).setIfInBounds k v else F j) := fun j hj => by
  by_cases e : j = i
  · subst e
    simp only [if_pos]
    exact (h j hj).set_ k v
  · simp only [if_neg e]
    exact (h j hj).far (fun e2 => e (hi j i hj hk e2)) v
theorem S7.fr {w w' : World} {g : Nat → Nat} {F : Nat → Array Value} {S : Nat → Prop} (h : S7 w g F) (hf : Fr S w w') (hn : ∀ j, j < 7 → ¬ S (g j)) : S7 w' g F := fun j hj => (h j hj).fr hf (hn j hj)
theorem S7.congr {w : World} {g : Nat → Nat} {F G : Nat → Array Value} (h : S7 w g F) (e : ∀ j, j < 7 → F j = G j) : S7 w g G := fun j hj => by rw [← e j hj]; exact h j hj
def shE : Array Value := shp 63 64 65 66 67 68 69
def shFin (j : Nat) : Array Value :=
  if j = 0 then shp 70 64 71 66 67 68 69
  else if j = 1 then shp 63 64 65 72 73 68 74
  else if j = 2 then shp 70 64 75 66 67 68 69
  else if j = 3 then shp 70 76 75 66 73 77 69
  else if j = 4 then shp 70 64 65 66 67 77 69
  else if j = 5 then shp 63 64 65 66 73 68 69
  else shp 70 64 65 66 67 68 69
set_option maxRecDepth 100000 in
set_option maxHeartbeats 4000000 in
theorem shapes_any (w : World) : Calls Tryz.prog 38 #[] w fun e w' => ∃ m, e = .returned (.map (some m)) ∧ Tab Tryz.prog 3 w' m 7 shapeF ∧ Fr No w w' := by
  have hb := Blk.new w 98 shE
  have hfw : Fr No w (w.alloc (.cells shE 98)) := (Fr.refl _ _).alloc _
  go_enter Tryz.func38, Tryz.ntmps38
  go_wp2
  refine sh_region (c0 := 63) (c1 := 64) (c2 := 65) (c3 := 66) (c4 := 67) (c5 := 68) (c6 := 69) hb fun g w2 hS hI hf2 => ?_
  have HI : Hid (Inj7 g) := hI
  have HS : Hid (S7 w2 g (fun _ => shE)) := fun j hj => (hS j hj).2
  have HG : Hid (∀ j, j < 7 → w.heap.size ≤ g j) := fun j hj => by
    have := (hS j hj).1
    rw [World.size_alloc] at this
    omega
  have HF : Hid (Fr No w w2) := hfw.trans hf2
  clear hb hfw hS hI hf2
  unfold shFrame
  have hx := HS.out 0 (by omega)
  have x0 := hx.cell 0
  have f0 := hx.frozen 0
  have x2 := hx.cell 2
  have f2 := hx.frozen 2
  simp only [shE, shp, fnV, if_true, if_false, List.getElem?_toArray, List.getElem?_cons_zero, List.getElem?_cons_succ, Array.getElem?_setIfInBounds, Nat.reduceEqDiff] at x0 x2
  go_upto_region 4 with (fail)
  have HS' := Lib.hid ((HS.out.set_ HI.out 0 0 (by omega) (.func (.func 70) #[] #[])).set_ HI.out 0 2 (by omega) (.func (.func 71) #[] #[]))
  have HF' : Hid (Fr No w _) := ((HF.out.setCell (p := ⟨g 0, 0, none⟩) (fun h => absurd h (by have := HG.out 0 (by omega); simp only; omega)) (.func (.func 70) #[] #[])).setCell (p := ⟨g 0, 2, none⟩) (fun h => absurd h (by have := HG.out 0 (by omega); simp only; omega)) (.func (.func 71) #[] #[]))
  clear hx x0 f0 x2 f2 HS HF
  have HS := HS'
  have HF := HF'
  clear HS' HF'
  generalize ((w2.setCell ⟨g 0, 0, none⟩ (.func (.func 70) #[] #[])).setCell ⟨g 0, 2, none⟩ (.func (.func 71) #[] #[])) = w3 at *
  have hx := HS.out 1 (by omega)
  have x3 := hx.cell 3
  have f3 := hx.frozen 3
  have x4 := hx.cell 4
  have f4 := hx.frozen 4
  have x6 := hx.cell 6
  have f6 := hx.frozen 6
  simp only [shE, shp, fnV, if_true, if_false, List.getElem?_toArray, List.getElem?_cons_zero, List.getElem?_cons_succ, Array.getElem?_setIfInBounds, Nat.reduceEqDiff] at x3 x4 x6
  go_upto_region 5 with (fail)
  have HS' := Lib.hid (((HS.out.set_ HI.out 1 3 (by omega) (.func (.func 72) #[] #[])).set_ HI.out 1 4 (by omega) (.func (.func 73) #[] #[])).set_ HI.out 1 6 (by omega) (.func (.func 74) #[] #[]))
  have HF' : Hid (Fr No w _) := (((HF.out.setCell (p := ⟨g 1, 3, none⟩) (fun h => absurd h (by have := HG.out 1 (by omega); simp only; omega)) (.func (.func 72) #[] #[])).setCell (p := ⟨g 1, 4, none⟩) (fun h => absurd h (by have := HG.out 1 (by omega); simp only; omega)) (.func (.func 73) #[] #[])).setCell (p := ⟨g 1, 6, none⟩) (fun h => absurd h (by have := HG.out 1 (by omega); simp only; omega)) (.func (.func 74) #[] #[]))
  clear hx x3 f3 x4 f4 x6 f6 HS HF
  have HS := HS'
  have HF := HF'
  clear HS' HF'
  generalize (((w3.setCell ⟨g 1, 3, none⟩ (.func (.func 72) #[] #[])).setCell ⟨g 1, 4, none⟩ (.func (.func 73) #[] #[])).setCell ⟨g 1, 6, none⟩ (.func (.func 74) #[] #[])) = w4 at *
  have hx := HS.out 2 (by omega)
  have x0 := hx.cell 0
  have f0 := hx.frozen 0
  have x2 := hx.cell 2
  have f2 := hx.frozen 2
  simp only [shE, shp, fnV, if_true, if_false, List.getElem?_toArray, List.getElem?_cons_zero, List.getElem?_cons_succ, Array.getElem?_setIfInBounds, Nat.reduceEqDiff] at x0 x2
  go_upto_region 6 with (fail)
  have HS' := Lib.hid ((HS.out.set_ HI.out 2 0 (by omega) (.func (.func 70) #[] #[])).set_ HI.out 2 2 (by omega) (.func (.func 75) #[] #[]))
  have HF' : Hid (Fr No w _) := ((HF.out.setCell (p := ⟨g 2, 0, none⟩) (fun h => absurd h (by have := HG.out 2 (by omega); simp only; omega)) (.func (.func 70) #[] #[])).setCell (p := ⟨g 2, 2, none⟩) (fun h => absurd h (by have := HG.out 2 (by omega); simp only; omega)) (.func (.func 75) #[] #[]))
  clear hx x0 f0 x2 f2 HS HF
  have HS := HS'
  have HF := HF'
  clear HS' HF'
  generalize ((w4.setCell ⟨g 2, 0, none⟩ (.func (.func 70) #[] #[])).setCell ⟨g 2, 2, none⟩ (.func (.func 75) #[] #[])) = w5 at *
  have hx := HS.out 3 (by omega)
  have x0 := hx.cell 0
  have f0 := hx.frozen 0
  have x1 := hx.cell 1
  have f1 := hx.frozen 1
  have x2 := hx.cell 2
  have f2 := hx.frozen 2
  simp only [shE, shp, fnV, if_true, if_false, List.getElem?_toArray, List.getElem?_cons_zero, List.getElem?_cons_succ, Array.getElem?_setIfInBounds, Nat.reduceEqDiff] at x0 x1 x2
  go_upto_region 7 with (fail)
  have HS' := Lib.hid (((HS.out.set_ HI.out 3 0 (by omega) (.func (.func 70) #[] #[])).set_ HI.out 3 1 (by omega) (.func (.func 76) #[] #[])).set_ HI.out 3 2 (by omega) (.func (.func 75) #[] #[]))
  have HF' : Hid (Fr No w _) := (((HF.out.setCell (p := ⟨g 3, 0, none⟩) (fun h => absurd h (by have := HG.out 3 (by omega); simp only; omega)) (.func (.func 70) #[] #[])).setCell (p := ⟨g 3, 1, none⟩) (fun h => absurd h (by have := HG.out 3 (by omega); simp only; omega)) (.func (.func 76) #[] #[])).setCell (p := ⟨g 3, 2, none⟩) (fun h => absurd h (by have := HG.out 3 (by omega); simp only; omega)) (.func (.func 75) #[] #[]))
  clear hx x0 f0 x1 f1 x2 f2 HS HF
  have HS := HS'
  have HF := HF'
  clear HS' HF'
  generalize (((w5.setCell ⟨g 3, 0, none⟩ (.func (.func 70) #[] #[])).setCell ⟨g 3, 1, none⟩ (.func (.func 76) #[] #[])).setCell ⟨g 3, 2, none⟩ (.func (.func 75) #[] #[])) = w6 at *
  have hx := HS.out 3 (by omega)
  have x5 := hx.cell 5
  have f5 := hx.frozen 5
  have x4 := hx.cell 4
  have f4 := hx.frozen 4
  simp only [shE, shp, fnV, if_true, if_false, List.getElem?_toArray, List.getElem?_cons_zero, List.getElem?_cons_succ, Array.getElem?_setIfInBounds, Nat.reduceEqDiff] at x5 x4
  go_upto_region 8 with (fail)
  have HS' := Lib.hid ((HS.out.set_ HI.out 3 5 (by omega) (.func (.func 77) #[] #[])).set_ HI.out 3 4 (by omega) (.func (.func 73) #[] #[]))
  have HF' : Hid (Fr No w _) := ((HF.out.setCell (p := ⟨g 3, 5, none⟩) (fun h => absurd h (by have := HG.out 3 (by omega); simp only; omega)) (.func (.func 77) #[] #[])).setCell (p := ⟨g 3, 4, none⟩) (fun h => absurd h (by have := HG.out 3 (by omega); simp only; omega)) (.func (.func 73) #[] #[]))
  clear hx x5 f5 x4 f4 HS HF
  have HS := HS'
  have HF := HF'
  clear HS' HF'
  generalize ((w6.setCell ⟨g 3, 5, none⟩ (.func (.func 77) #[] #[])).setCell ⟨g 3, 4, none⟩ (.func (.func 73) #[] #[])) = w7 at *
  have hx := HS.out 4 (by omega)
  have x0 := hx.cell 0
  have f0 := hx.frozen 0
  have x5 := hx.cell 5
  have f5 := hx.frozen 5
  simp only [shE, shp, fnV, if_true, if_false, List.getElem?_toArray, List.getElem?_cons_zero, List.getElem?_cons_succ, Array.getElem?_setIfInBounds, Nat.reduceEqDiff] at x0 x5
  go_upto_region 9 with (fail)
  have HS' := Lib.hid ((HS.out.set_ HI.out 4 0 (by omega) (.func (.func 70) #[] #[])).set_ HI.out 4 5 (by omega) (.func (.func 77) #[] #[]))
  have HF' : Hid (Fr No w _) := ((HF.out.setCell (p := ⟨g 4, 0, none⟩) (fun h => absurd h (by have := HG.out 4 (by omega); simp only; omega)) (.func (.func 70) #[] #[])).setCell (p := ⟨g 4, 5, none⟩) (fun h => absurd h (by have := HG.out 4 (by omega); simp only; omega)) (.func (.func 77) #[] #[]))
  clear hx x0 f0 x5 f5 HS HF
  have HS := HS'
  have HF := HF'
  clear HS' HF'
  generalize ((w7.setCell ⟨g 4, 0, none⟩ (.func (.func 70) #[] #[])).setCell ⟨g 4, 5, none⟩ (.func (.func 77) #[] #[])) = w8 at *
  have hx := HS.out 5 (by omega)
  have x4 := hx.cell 4
  have f4 := hx.frozen 4
  simp only [shE, shp, fnV, if_true, if_false, List.getElem?_toArray, List.getElem?_cons_zero, List.getElem?_cons_succ, Array.getElem?_setIfInBounds, Nat.reduceEqDiff] at x4
  go_upto_region 10 with (fail)
  have HS' := Lib.hid (HS.out.set_ HI.out 5 4 (by omega) (.func (.func 73) #[] #[]))
  have HF' : Hid (Fr No w _) := (HF.out.setCell (p := ⟨g 5, 4, none⟩) (fun h => absurd h (by have := HG.out 5 (by omega); simp only; omega)) (.func (.func 73) #[] #[]))
  clear hx x4 f4 HS HF
  have HS := HS'
  have HF := HF'
  clear HS' HF'
  generalize (w8.setCell ⟨g 5, 4, none⟩ (.func (.func 73) #[] #[])) = w9 at *
  have hx := HS.out 6 (by omega)
  have x0 := hx.cell 0
  have f0 := hx.frozen 0
  simp only [shE, shp, fnV, if_true, if_false, List.getElem?_toArray, List.getElem?_cons_zero, List.getElem?_cons_succ, Array.getElem?_setIfInBounds, Nat.reduceEqDiff] at x0
  go_upto_region 11 with (fail)
  have HS' := Lib.hid (HS.out.set_ HI.out 6 0 (by omega) (.func (.func 70) #[] #[]))
  have HF' : Hid (Fr No w _) := (HF.out.setCell (p := ⟨g 6, 0, none⟩) (fun h => absurd h (by have := HG.out 6 (by omega); simp only; omega)) (.func (.func 70) #[] #[]))
  clear hx x0 f0 HS HF
  have HS := HS'
  have HF := HF'
  clear HS' HF'
  generalize (w9.setCell ⟨g 6, 0, none⟩ (.func (.func 70) #[] #[])) = w10 at *
  have HS1 := Lib.hid (HS.out.congr (G := shFin) fun j hj => by match j, hj with
    | 0, _ | 1, _ | 2, _ | 3, _ | 4, _ | 5, _ | 6, _ => rfl)
  clear HS
  have HS := HS1
  clear HS1
  have HS0 := HS
  have HT : Hid (Tab Tryz.prog 3 (w10.alloc (.map #[] 0)) w10.heap.size 0 (fun _ => none)) := Tab.made w10
  have HM := Lib.hid (HF.out.alloc (.map #[] 0))
  have HS1 := Lib.hid (HS.out.fr ((Fr.refl No w10).alloc (.map #[] 0)) (fun _ _ h => h))
  clear HS
  have HS := HS1
  clear HS1
  have hmk := @run_makeMap Tryz.prog
  have HN : Hid (∀ j, j < 7 → g j ≠ w10.heap.size) := fun j hj => by
    have := (HS.out j hj).lt
    have h2 : g j < w10.heap.size := (HS0.out j hj).lt
    omega
  have HZ : Hid (w.heap.size ≤ w10.heap.size) := HF.out.size
  clear HS0
  clear HF
  have hx := HS.out 0 (by omega)
  have x00 := hx.cell 0
  have x01 := hx.cell 1
  have x02 := hx.cell 2
  have x03 := hx.cell 3
  have x04 := hx.cell 4
  have x05 := hx.cell 5
  have x06 := hx.cell 6
  simp only [shFin, shp, fnV, if_true, if_false, List.getElem?_toArray, List.getElem?_cons_zero, List.getElem?_cons_succ, Nat.reduceEqDiff] at x00 x01 x02 x03 x04 x05 x06
  clear hx
  obtain ⟨u0, hr0, hT0, hf0⟩ := HT.out.put Tryz.underlying3 Tryz.underlying100 (by unfold maxLen; omega) 1 (by unfold In64; omega) (.agg (shFin 0))
  simp only [shFin, shp, fnV, if_true, if_false, Nat.reduceEqDiff] at hr0
  have HT' := Lib.hid hT0
  have HS' := Lib.hid (HS.out.fr hf0 (fun j hj h => HN.out j hj h))
  have HM' : Hid (Fr No w u0) := HM.out.trans' hf0 (fun i hi hlt => by have : i = w10.heap.size := hi; have := HZ.out; omega)
  clear HT HS HM hT0 hf0
  have HT := HT'
  have HS := HS'
  have HM := HM'
  clear HT' HS' HM'
  have hx := HS.out 1 (by omega)
  have x10 := hx.cell 0
  have x11 := hx.cell 1
  have x12 := hx.cell 2
  have x13 := hx.cell 3
  have x14 := hx.cell 4
  have x15 := hx.cell 5
  have x16 := hx.cell 6
  simp only [shFin, shp, fnV, if_true, if_false, List.getElem?_toArray, List.getElem?_cons_zero, List.getElem?_cons_succ, Nat.reduceEqDiff] at x10 x11 x12 x13 x14 x15 x16
  clear hx
  obtain ⟨u1, hr1, hT1, hf1⟩ := HT.out.put Tryz.underlying3 Tryz.underlying100 (by unfold maxLen; omega) 2 (by unfold In64; omega) (.agg (shFin 1))
  simp only [shFin, shp, fnV, if_true, if_false, Nat.reduceEqDiff] at hr1
  have HT' := Lib.hid hT1
  have HS' := Lib.hid (HS.out.fr hf1 (fun j hj h => HN.out j hj h))
  have HM' : Hid (Fr No w u1) := HM.out.trans' hf1 (fun i hi hlt => by have : i = w10.heap.size := hi; have := HZ.out; omega)
  clear HT HS HM hT1 hf1
  have HT := HT'
  have HS := HS'
  have HM := HM'
  clear HT' HS' HM'
  have hx := HS.out 2 (by omega)
  have x20 := hx.cell 0
  have x21 := hx.cell 1
  have x22 := hx.cell 2
  have x23 := hx.cell 3
  have x24 := hx.cell 4
  have x25 := hx.cell 5
  have x26 := hx.cell 6
  simp only [shFin, shp, fnV, if_true, if_false, List.getElem?_toArray, List.getElem?_cons_zero, List.getElem?_cons_succ, Nat.reduceEqDiff] at x20 x21 x22 x23 x24 x25 x26
  clear hx
  obtain ⟨u2, hr2, hT2, hf2⟩ := HT.out.put Tryz.underlying3 Tryz.underlying100 (by unfold maxLen; omega) 3 (by unfold In64; omega) (.agg (shFin 2))
  simp only [shFin, shp, fnV, if_true, if_false, Nat.reduceEqDiff] at hr2
  have HT' := Lib.hid hT2
  have HS' := Lib.hid (HS.out.fr hf2 (fun j hj h => HN.out j hj h))
  have HM' : Hid (Fr No w u2) := HM.out.trans' hf2 (fun i hi hlt => by have : i = w10.heap.size := hi; have := HZ.out; omega)
  clear HT HS HM hT2 hf2
  have HT := HT'
  have HS := HS'
  have HM := HM'
  clear HT' HS' HM'
  have hx := HS.out 3 (by omega)
  have x30 := hx.cell 0
  have x31 := hx.cell 1
  have x32 := hx.cell 2
  have x33 := hx.cell 3
  have x34 := hx.cell 4
  have x35 := hx.cell 5
  have x36 := hx.cell 6
  simp only [shFin, shp, fnV, if_true, if_false, List.getElem?_toArray, List.getElem?_cons_zero, List.getElem?_cons_succ, Nat.reduceEqDiff] at x30 x31 x32 x33 x34 x35 x36
  clear hx
  obtain ⟨u3, hr3, hT3, hf3⟩ := HT.out.put Tryz.underlying3 Tryz.underlying100 (by unfold maxLen; omega) 4 (by unfold In64; omega) (.agg (shFin 3))
  simp only [shFin, shp, fnV, if_true, if_false, Nat.reduceEqDiff] at hr3
  have HT' := Lib.hid hT3
  have HS' := Lib.hid (HS.out.fr hf3 (fun j hj h => HN.out j hj h))
  have HM' : Hid (Fr No w u3) := HM.out.trans' hf3 (fun i hi hlt => by have : i = w10.heap.size := hi; have := HZ.out; omega)
  clear HT HS HM hT3 hf3
  have HT := HT'
  have HS := HS'
  have HM := HM'
  clear HT' HS' HM'
  have hx := HS.out 4 (by omega)
  have x40 := hx.cell 0
  have x41 := hx.cell 1
  have x42 := hx.cell 2
  have x43 := hx.cell 3
  have x44 := hx.cell 4
  have x45 := hx.cell 5
  have x46 := hx.cell 6
  simp only [shFin, shp, fnV, if_true, if_false, List.getElem?_toArray, List.getElem?_cons_zero, List.getElem?_cons_succ, Nat.reduceEqDiff] at x40 x41 x42 x43 x44 x45 x46
  clear hx
  obtain ⟨u4, hr4, hT4, hf4⟩ := HT.out.put Tryz.underlying3 Tryz.underlying100 (by unfold maxLen; omega) 5 (by unfold In64; omega) (.agg (shFin 4))
  simp only [shFin, shp, fnV, if_true, if_false, Nat.reduceEqDiff] at hr4
  have HT' := Lib.hid hT4
  have HS' := Lib.hid (HS.out.fr hf4 (fun j hj h => HN.out j hj h))
  have HM' : Hid (Fr No w u4) := HM.out.trans' hf4 (fun i hi hlt => by have : i = w10.heap.size := hi; have := HZ.out; omega)
  clear HT HS HM hT4 hf4
  have HT := HT'
  have HS := HS'
  have HM := HM'
  clear HT' HS' HM'
  have hx := HS.out 5 (by omega)
  have x50 := hx.cell 0
  have x51 := hx.cell 1
  have x52 := hx.cell 2
  have x53 := hx.cell 3
  have x54 := hx.cell 4
  have x55 := hx.cell 5
  have x56 := hx.cell 6
  simp only [shFin, shp, fnV, if_true, if_false, List.getElem?_toArray, List.getElem?_cons_zero, List.getElem?_cons_succ, Nat.reduceEqDiff] at x50 x51 x52 x53 x54 x55 x56
  clear hx
  obtain ⟨u5, hr5, hT5, hf5⟩ := HT.out.put Tryz.underlying3 Tryz.underlying100 (by unfold maxLen; omega) 6 (by unfold In64; omega) (.agg (shFin 5))
  simp only [shFin, shp, fnV, if_true, if_false, Nat.reduceEqDiff] at hr5
  have HT' := Lib.hid hT5
  have HS' := Lib.hid (HS.out.fr hf5 (fun j hj h => HN.out j hj h))
  have HM' : Hid (Fr No w u5) := HM.out.trans' hf5 (fun i hi hlt => by have : i = w10.heap.size := hi; have := HZ.out; omega)
  clear HT HS HM hT5 hf5
  have HT := HT'
  have HS := HS'
  have HM := HM'
  clear HT' HS' HM'
  have hx := HS.out 6 (by omega)
  have x60 := hx.cell 0
  have x61 := hx.cell 1
  have x62 := hx.cell 2
  have x63 := hx.cell 3
  have x64 := hx.cell 4
  have x65 := hx.cell 5
  have x66 := hx.cell 6
  simp only [shFin, shp, fnV, if_true, if_false, List.getElem?_toArray, List.getElem?_cons_zero, List.getElem?_cons_succ, Nat.reduceEqDiff] at x60 x61 x62 x63 x64 x65 x66
  clear hx
  obtain ⟨u6, hr6, hT6, hf6⟩ := HT.out.put Tryz.underlying3 Tryz.underlying100 (by unfold maxLen; omega) 7 (by unfold In64; omega) (.agg (shFin 6))
  simp only [shFin, shp, fnV, if_true, if_false, Nat.reduceEqDiff] at hr6
  have HT' := Lib.hid hT6
  have HS' := Lib.hid (HS.out.fr hf6 (fun j hj h => HN.out j hj h))
  have HM' : Hid (Fr No w u6) := HM.out.trans' hf6 (fun i hi hlt => by have : i = w10.heap.size := hi; have := HZ.out; omega)
  clear HT HS HM hT6 hf6
  have HT := HT'
  have HS := HS'
  have HM := HM'
  clear HT' HS' HM'
  clear HS HN HZ HI HG
  go_wp2
  go_ret
  exact ⟨_, rfl, HT.out, HM.out⟩
end Go.Proofs.YtdooapnnohbjjaaGreat

namespace Go.Proofs.YtdooapnnohbjjaaGreat
open Go.RowKit Go.My Go.Maps
set_option linter.unusedSimpArgs false
set_option linter.unusedVariables false
attribute [local go_sem ↓] Go.wp_at_zero Go.wp_at_succ

/-- answers b, and changes nothing -/
def AnsB (f : FuncId) (args : Array Value) (b : Bool) : Prop := ∀ W, Calls Tryz.prog f args W fun e w' => e = .returned (.bool b) ∧ Fr No W w'
theorem ans1 (s : ByteArray) : AnsB 63 #[.string s] s.data.toList.isEmpty := fun W => by
  go_enter Tryz.func63, Tryz.ntmps63
  go_wp2
  go_ret
  refine ⟨?_, Fr.refl _ _⟩
  rw [← ByteArray.toList_eq]
  rfl
theorem ans7 (s : ByteArray) : AnsB 69 #[.string s] s.data.toList.isEmpty := fun W => by
  go_enter Tryz.func69, Tryz.ntmps69
  go_wp2
  go_ret
  refine ⟨?_, Fr.refl _ _⟩
  rw [← ByteArray.toList_eq]
  rfl
theorem ans2 (s t : ByteArray) : AnsB 64 #[.string s, .string t] s.data.toList.isEmpty := fun W => by
  go_enter Tryz.func64, Tryz.ntmps64
  go_wp2
  go_ret
  refine ⟨?_, Fr.refl _ _⟩
  rw [← ByteArray.toList_eq]
  rfl
theorem ans3 (n : Int) : AnsB 65 #[.int .i64 n] (n == 0) := fun W => by
  go_enter Tryz.func65, Tryz.ntmps65
  go_wp2
  go_ret
  exact ⟨rfl, Fr.refl _ _⟩
theorem ans5 (n : Int) : AnsB 67 #[.int .i64 n] (n == 0) := fun W => by
  go_enter Tryz.func67, Tryz.ntmps67
  go_wp2
  go_ret
  exact ⟨rfl, Fr.refl _ _⟩
theorem ans6 (n : Int) : AnsB 68 #[.int .i64 n] (n == 0) := fun W => by
  go_enter Tryz.func68, Tryz.ntmps68
  go_wp2
  go_ret
  exact ⟨rfl, Fr.refl _ _⟩
theorem ans8 (n : Int) : AnsB 71 #[.int .i64 n] (decide (0 ≤ n)) := fun W => by
  go_enter Tryz.func71, Tryz.ntmps71
  go_wp2
  go_ret
  exact ⟨rfl, Fr.refl _ _⟩
theorem ans4 (A : Option Addr) (n c : Nat) : AnsB 66 #[.slice A n c] (n == 0) := fun W => by
  go_enter Tryz.func66, Tryz.ntmps66
  go_wp2
  go_ret
  refine ⟨?_, Fr.refl _ _⟩
  cases n <;> simp <;> omega
theorem ansSum (n : Int) : AnsB 75 #[.int .i64 n] (decide (1 ≤ n)) := fun W => by
  go_enter Tryz.func75, Tryz.ntmps75
  go_wp2
  go_ret
  exact ⟨rfl, Fr.refl _ _⟩
theorem ansPeriod (n : Int) : AnsB 73 #[.int .i64 n] (decide (1 ≤ n) && decide (n ≤ 1000)) := fun W => by
  by_cases h : 1 ≤ n
  · go_enter Tryz.func73, Tryz.ntmps73
    go_wp2
    go_ret
    exact ⟨by simp [h], Fr.refl _ _⟩
  · go_enter Tryz.func73, Tryz.ntmps73
    go_wp2
    go_ret
    exact ⟨by rw [show decide (1 ≤ n) = false from decide_eq_false (by omega)]; rfl, Fr.refl _ _⟩
theorem ansHold (n : Int) : AnsB 77 #[.int .i64 n] (decide (1 ≤ n) && decide (n ≤ 9999)) := fun W => by
  by_cases h : 1 ≤ n
  · go_enter Tryz.func77, Tryz.ntmps77
    go_wp2
    go_ret
    exact ⟨by simp [h], Fr.refl _ _⟩
  · go_enter Tryz.func77, Tryz.ntmps77
    go_wp2
    go_ret
    exact ⟨by rw [show decide (1 ≤ n) = false from decide_eq_false (by omega)]; rfl, Fr.refl _ _⟩
theorem ansNote (s : ByteArray) : AnsB 74 #[.string s] (decide (s.data.toList.length ≤ 20)) := fun W => by
  go_enter Tryz.func74, Tryz.ntmps74
  go_wp2
  go_ret
  refine ⟨?_, Fr.refl _ _⟩
  obtain ⟨⟨l⟩⟩ := s
  simp [ByteArray.size]
  omega
theorem ansName (s : ByteArray) (hs : s.size ≤ maxLen) : AnsB 70 #[.string s] (nameB s.data.toList) := fun W => (name_any s W hs).mono fun e w' h => ⟨h.1, Fr.of_below h.2 _⟩
theorem ansPeer (s t : ByteArray) (hs : s.size ≤ maxLen) : AnsB 76 #[.string s, .string t] (nameB s.data.toList && !(s.data.toList == t.data.toList)) := fun W => by
  have HN := Lib.hid (ansName s hs)
  cases hn : nameB s.data.toList
  · rw [hn] at HN
    clear hn
    go_enter Tryz.func76, Tryz.ntmps76
    go_wp2_with fail
    refine (HN.out _).mono ?_
    rintro e w1 ⟨rfl, hf⟩
    go_wp2
    go_ret
    exact ⟨rfl, hf⟩
  · rw [hn] at HN
    clear hn
    go_enter Tryz.func76, Tryz.ntmps76
    go_wp2_with fail
    refine (HN.out _).mono ?_
    rintro e w1 ⟨rfl, hf⟩
    go_wp2
    go_ret
    refine ⟨?_, hf⟩
    rw [← ByteArray.toList_eq, ← ByteArray.toList_eq]
    rfl
/-- may an Id be? -/
def idB (c s : Int) : Bool := decide (0 ≤ c) && (decide (c ≤ 9) && (decide (1 ≤ s) && decide (s ≤ 999)))
theorem ansId (c s : Int) : AnsB 39 #[.agg #[.int .i64 c, .int .i64 s]] (idB c s) := fun W => by
  have hf : Fr No W (W.alloc (.cells #[.int .i64 c, .int .i64 s] 34)) := (Fr.refl _ _).alloc _
  by_cases h1 : 0 ≤ c
  · by_cases h2 : c ≤ 9
    · by_cases h3 : 1 ≤ s
      · go_enter Tryz.func39, Tryz.ntmps39
        go_wp2
        go_ret
        exact ⟨by simp [idB, h1, h2, h3], hf⟩
      · go_enter Tryz.func39, Tryz.ntmps39
        go_wp2
        go_ret
        exact ⟨by unfold idB; rw [decide_eq_true h1, decide_eq_true h2, show decide (1 ≤ s) = false from decide_eq_false (by omega)]; rfl, hf⟩
    · go_enter Tryz.func39, Tryz.ntmps39
      go_wp2
      go_ret
      exact ⟨by unfold idB; rw [decide_eq_true h1, show decide (c ≤ 9) = false from decide_eq_false (by omega)]; rfl, hf⟩
  · go_enter Tryz.func39, Tryz.ntmps39
    go_wp2
    go_ret
    exact ⟨by unfold idB; rw [show decide (0 ≤ c) = false from decide_eq_false (by omega)]; rfl, hf⟩
end Go.Proofs.YtdooapnnohbjjaaGreat

namespace Go.Proofs.YtdooapnnohbjjaaGreat
open Go.RowKit Go.My Go.Maps
set_option linter.unusedSimpArgs false
set_option linter.unusedVariables false
attribute [local go_sem ↓] Go.wp_at_zero Go.wp_at_succ

/-- the first leg for which q holds -/
def idxL (q : Lg → Bool) (L : List Lg) : Int := match L.findIdx? q with | some i => (i : Int) | none => -1
def IxRel (w : World) (q : Lg → Bool) (L : List Lg) (iv : Value) (wr : World) : Prop := ∃ k : Nat, k ≤ L.length ∧ iv = .int .i64 k ∧ (∀ g ∈ L.take k, q g = false) ∧ Fr No w wr
theorem index_any (F : Nat → Prop) (A : Option Addr) (c : Nat) (cells : List Value) (L : List Lg) (f : FuncId) (bs : Array Value) (q : Lg → Bool) (w : World) (hr : Rd w F 2 A L.length cells) (hE : Each RdLg 2 cells L) (hL : L.length ≤ 1000000)
    (hf : ∀ args W, (callFunc f args).run Tryz.prog W = .ok (.enter f args) W)
    (hc : ∀ W, Fr No w W → ∀ g ∈ L, Calls Tryz.prog f (#[.agg #[.string g.acct, .int .i64 g.sum]] ++ bs) W fun e w' => e = .returned (.bool (q g)) ∧ Fr No W w') :
    Calls Tryz.prog 117 #[.slice A L.length c, .func (.func f) #[] bs] w fun e w' => e = .returned (.int .i64 (idxL q L)) ∧ Fr No w w' := by
  have HR := Lib.hid hr
  have HE := Lib.hid hE
  have HC := Lib.hid hc
  clear hr hE hc
  go_enter Tryz.func117, Tryz.ntmps117
  go_wp2
  go_loopw [8] (fun iv wr => IxRel w q L iv wr) (fun iv _ => L.length - (intOf iv).toNat)
  case atStart => exact ⟨0, Nat.zero_le _, rfl, fun g hg => by simp at hg, Fr.refl _ _⟩
  case round =>
    obtain ⟨k, hk, rfl, hall, hfr⟩ := hrel
    by_cases hlt : k < L.length
    · obtain ⟨ad, rfl, _, hok, q0, q1⟩ := lg_at (HR.out.fr (by omega) hfr fun _ _ _ h => h) HE.out k hlt hlt
      have HCK := Lib.hid fun W hW => HC.out W hW L[k] (List.getElem_mem hlt)
      have HFR := Lib.hid hfr
      have hT : q L[k] = true → idxL q L = (k : Int) := fun h => by
        unfold idxL
        rw [List.findIdx?_eq_some_iff_getElem.2 ⟨hlt, h, fun j hj => by
          have := hall L[j] (List.mem_take_iff_getElem.2 ⟨j, by omega, rfl⟩)
          simp [this]⟩]
      have hN : q L[k] = false → ∀ g ∈ L.take (k + 1), q g = false := fun h g hg => by
        rw [List.take_succ_eq_append_getElem hlt, List.mem_append] at hg
        rcases hg with hg | hg
        · exact hall g hg
        · rw [List.mem_singleton.1 hg]; exact h
      have HT := Lib.hid hT
      have HN := Lib.hid hN
      generalize L[k] = g at *
      obtain ⟨nm, sm⟩ := g
      simp only at q0 q1 HCK
      clear hall hfr hok hT hN
      cases hb : q ⟨nm, sm⟩
      · rw [hb] at HCK
        have HN2 := Lib.hid (HN.out hb)
        clear HT HN hb
        go_wp2_with fail
        refine (HCK.out _ HFR.out).mono ?_
        rintro e w1 ⟨rfl, hf1⟩
        clear q0 q1
        go_wp2
        go_roundw
        case rel => exact ⟨k + 1, by omega, by go_num, HN2.out, HFR.out.trans hf1⟩
        case measure => simp [intOf]; omega
      · rw [hb] at HCK
        have HT2 := Lib.hid (HT.out hb)
        clear HT HN hb
        go_wp2_with fail
        refine (HCK.out _ HFR.out).mono ?_
        rintro e w1 ⟨rfl, hf1⟩
        clear q0 q1
        go_wp2
        go_ret
        exact ⟨by rw [HT2.out]; rfl, HFR.out.trans hf1⟩
    · obtain rfl : k = L.length := by omega
      have HF : Hid (idxL q L = -1) := by
        show _ = _
        unfold idxL
        rw [List.take_length] at hall
        rw [List.findIdx?_eq_none_iff.2 hall]
      go_wp2
      go_ret
      exact ⟨by rw [HF.out]; rfl, hfr⟩
theorem contains_any (F : Nat → Prop) (A : Option Addr) (c : Nat) (cells : List Value) (L : List Lg) (f : FuncId) (bs : Array Value) (q : Lg → Bool) (w : World) (hr : Rd w F 2 A L.length cells) (hE : Each RdLg 2 cells L) (hL : L.length ≤ 1000000)
    (hf : ∀ args W, (callFunc f args).run Tryz.prog W = .ok (.enter f args) W)
    (hc : ∀ W, Fr No w W → ∀ g ∈ L, Calls Tryz.prog f (#[.agg #[.string g.acct, .int .i64 g.sum]] ++ bs) W fun e w' => e = .returned (.bool (q g)) ∧ Fr No W w') :
    Calls Tryz.prog 101 #[.slice A L.length c, .func (.func f) #[] bs] w fun e w' => e = .returned (.bool (L.any q)) ∧ Fr No w w' := by
  have HX := Lib.hid (index_any F A c cells L f bs q w hr hE hL hf hc)
  have HA : Hid (decide (0 ≤ idxL q L) = L.any q) := by
    show _ = _
    unfold idxL
    cases h : L.findIdx? q with
    | none =>
      rw [List.findIdx?_eq_none_iff] at h
      simp only
      rw [List.any_eq_false.2 (fun x hx => by rw [h x hx]; decide)]
      rfl
    | some i =>
      obtain ⟨hlt, hi, _⟩ := List.findIdx?_eq_some_iff_getElem.1 h
      simp only
      rw [List.any_eq_true.2 ⟨L[i], List.getElem_mem hlt, hi⟩]
      exact decide_eq_true (by omega)
  clear hr hE hf hc
  go_enter Tryz.func101, Tryz.ntmps101
  go_wp2_with fail
  refine HX.out.mono ?_
  rintro e w1 ⟨rfl, hf1⟩
  go_wp2
  go_ret
  exact ⟨by rw [← HA.out]; rfl, hf1⟩
theorem same_any (s a : ByteArray) (n : Int) (g : Nat) (w : World) (hg : w.cell? ⟨g, 0, none⟩ = some (.string a)) : Calls Tryz.prog 100 #[.agg #[.string s, .int .i64 n], .pointer (some ⟨g, 0, none⟩)] w fun e w' => e = .returned (.bool (s.data.toList == a.data.toList)) ∧ Fr No w w' := by
  have hgl := World.block_lt_of_cell? w _ hg
  simp only at hgl
  go_enter Tryz.func100, Tryz.ntmps100
  go_wp2
  go_ret
  refine ⟨?_, (Fr.refl _ _).alloc _⟩
  rw [← ByteArray.toList_eq, ← ByteArray.toList_eq]
  rfl
end Go.Proofs.YtdooapnnohbjjaaGreat

namespace Go.Proofs.YtdooapnnohbjjaaGreat
open Go.RowKit Go.My Go.Maps
set_option linter.unusedSimpArgs false
set_option linter.unusedVariables false
attribute [local go_sem ↓] Go.wp_at_zero Go.wp_at_succ

def RlRel (w : World) (L : List Lg) (iv : Value) (wr : World) : Prop := ∃ k : Nat, k ≤ L.length ∧ iv = .int .i64 k ∧ (L.take k).all okLg = true ∧ ((L.take k).map Lg.nm).Nodup ∧ Fr No w wr
theorem rightB_dup {L : List Lg} (h : ¬ (L.map Lg.nm).Nodup) : rightB L = false := by
  unfold rightB
  rw [decide_eq_false h]
  simp
theorem rightB_all {L : List Lg} (h : 2 ≤ L.length ∧ L.length ≤ 6) (ha : L.all okLg = true) (hd : (L.map Lg.nm).Nodup) : rightB L = true := by
  unfold rightB
  have e : L.all (fun g => nameB g.nm && decide (g.sum ≠ 0)) = true := ha
  rw [e, decide_eq_true h.1, decide_eq_true h.2, decide_eq_true hd]
  rfl
theorem any_nm (L : List Lg) (k : Nat) (hk : k < L.length) : ((L.take k).any fun g => g.acct.data.toList == L[k].acct.data.toList) = decide (L[k].nm ∈ (L.take k).map Lg.nm) := by
  rw [Bool.eq_iff_iff, List.any_eq_true, decide_eq_true_eq, List.mem_map]
  constructor
  · rintro ⟨g, hg, he⟩
    exact ⟨g, hg, by simpa [Lg.nm] using he⟩
  · rintro ⟨g, hg, he⟩
    exact ⟨g, hg, by simpa [Lg.nm] using he⟩
theorem each_take {X : Type} {R : List Value → X → Prop} {size : Nat} {cells : List Value} {T : List X} (hE : Each R size cells T) (k : Nat) (hk : k ≤ T.length) : Each R size (cells.take (k * size)) (T.take k) := by
  refine ⟨?_, fun i x hx => ?_⟩
  · have := hE.1
    rw [List.length_take, List.length_take, this]
    rw [Nat.min_eq_left (Nat.mul_le_mul_right _ hk), Nat.min_eq_left hk]
  · have hlt : i < k := by
      have := (List.getElem?_eq_some_iff.1 hx).1
      rw [List.length_take] at this
      omega
    rw [List.getElem?_take, if_pos hlt] at hx
    have h := hE.2 i x hx
    rw [List.drop_take, List.take_take, Nat.min_eq_left]
    · exact h
    · rw [← Nat.sub_mul]
      have : 1 ≤ k - i := by omega
      calc size = 1 * size := by omega
        _ ≤ (k - i) * size := Nat.mul_le_mul_right _ this

set_option maxRecDepth 100000 in
set_option maxHeartbeats 4000000 in
theorem rightLegs_any (F : Nat → Prop) (A : Option Addr) (c : Nat) (cells : List Value) (L : List Lg) (w : World) (hr : Rd w F 2 A L.length cells) (hE : Each RdLg 2 cells L) (hlc : L.length ≤ c) (hcm : c ≤ maxLen) :
    Calls Tryz.prog 72 #[.slice A L.length c] w fun e w' => e = .returned (.bool (rightB L)) ∧ Fr No w w' := by
  have HR := Lib.hid hr
  have HE := Lib.hid hE
  have HLC := Lib.hid hlc
  clear hr hE hlc
  by_cases h2 : L.length < 2
  · have HB : Hid (rightB L = false) := rightB_len (by omega)
    have h2' : (L.length : Int) < 2 := by omega
    clear h2
    go_enter Tryz.func72, Tryz.ntmps72
    go_wp2
    go_ret
    exact ⟨by rw [HB.out]; rfl, Fr.refl _ _⟩
  by_cases h6 : 6 < L.length
  · have HB : Hid (rightB L = false) := rightB_len (by omega)
    have h2' : ¬ (L.length : Int) < 2 := by omega
    have h6' : (6 : Int) < (L.length : Int) := by omega
    clear h2 h6
    go_enter Tryz.func72, Tryz.ntmps72
    go_wp2
    go_ret
    exact ⟨by rw [HB.out]; rfl, Fr.refl _ _⟩
  have HLN : Hid (2 ≤ L.length ∧ L.length ≤ 6) := ⟨by omega, by omega⟩
  have h2' : ¬ (L.length : Int) < 2 := by omega
  have h6' : ¬ (6 : Int) < (L.length : Int) := by omega
  clear h2 h6
  go_enter Tryz.func72, Tryz.ntmps72
  go_wp2
  clear h2' h6'
  go_loopw [16] (fun iv wr => RlRel w L iv wr) (fun iv _ => L.length - (intOf iv).toNat)
  case atStart => exact ⟨0, Nat.zero_le _, rfl, rfl, by simp, Fr.refl _ _⟩
  case round =>
    obtain ⟨k, hk, rfl, hall, hnd, hfr⟩ := hrel
    by_cases hlt : k < L.length
    · obtain ⟨ad, rfl, _, hok, q0, q1⟩ := lg_at (HR.out.fr (by omega) hfr fun _ _ _ h => h) HE.out k hlt hlt
      have HBAD : Hid (okLg L[k] = false → rightB L = false) := rightB_bad hlt
      have HNX : Hid (okLg L[k] = true → (L.take (k + 1)).all okLg = true) := fun h => by
        rw [List.take_succ_eq_append_getElem hlt, List.all_append, hall]
        simp [h]
      have HDUP : Hid (L[k].nm ∈ (L.take k).map Lg.nm → rightB L = false) := fun h => rightB_dup fun hd => by
        obtain ⟨g, hg, he⟩ := List.mem_map.1 h
        obtain ⟨j, hj, rfl⟩ := List.mem_take_iff_getElem.1 hg
        have h3 := List.pairwise_iff_getElem.1 hd j k (by simp; omega) (by simpa using hlt) (by omega)
        simp only [List.getElem_map] at h3
        exact h3 he
      have HND : Hid (L[k].nm ∉ (L.take k).map Lg.nm → ((L.take (k + 1)).map Lg.nm).Nodup) := fun h => by
        rw [List.take_succ_eq_append_getElem hlt, List.map_append, List.nodup_append]
        refine ⟨hnd, by simp, fun x hx y hy => ?_⟩
        simp only [List.map_cons, List.map_nil, List.mem_singleton] at hy
        rintro rfl
        rw [hy] at hx
        exact h hx
      have HAN := Lib.hid (any_nm L k hlt)
      have hlk : (L.take k).length = k := by rw [List.length_take]; omega
      have HCT : Hid (∀ W g, Fr No wr W → W.cell? ⟨g, 0, none⟩ = some (.string L[k].acct) → Calls Tryz.prog 101 #[.slice (some ad) k c, .func (.func 100) #[] #[.pointer (some ⟨g, 0, none⟩)]] W fun e w' => e = .returned (.bool ((L.take k).any fun x => x.acct.data.toList == L[k].acct.data.toList)) ∧ Fr No W w') := fun W g hW hg => by
        have h := contains_any F (some ad) c (cells.take (k * 2)) (L.take k) 100 #[.pointer (some ⟨g, 0, none⟩)] (fun x => x.acct.data.toList == L[k].acct.data.toList) W (by
          rw [hlk]
          exact ((HR.out.fr (by omega) hfr fun _ _ _ h => h).fr (by omega) hW fun _ _ _ h => h).take (by omega)) (each_take HE.out k hk) (by rw [hlk]; have := HLN.out; omega) (enters_of Tryz.func100 (by kernel_rfl) rfl) (fun W' hW' x hx => same_any x.acct L[k].acct x.sum g W' (hW'.cell_some hg (fun h => h)))
        rw [hlk] at h
        exact h
      generalize L[k] = g at *
      obtain ⟨nm, sm⟩ := g
      unfold Lg.ok at hok
      simp only at q0 q1 hok HCT
      rw [HAN.out] at HCT
      have HNM := Lib.hid (ansName nm hok.1)
      have hbx := Blk.new wr 106 #[.string nm, .int .i64 sm]
      have HBX := Lib.hid hbx
      have HFR := Lib.hid hfr
      clear hall hnd hfr hok hbx HAN hlk
      go_wp2_with fail
      refine (HNM.out _).mono ?_
      rintro e w3 ⟨rfl, hf3⟩
      have hbx3 := HBX.out.fr hf3 (fun h => h)
      have x0 := hbx3.cell 0
      have x1 := hbx3.cell 1
      simp only [List.getElem?_toArray, List.getElem?_cons_zero, List.getElem?_cons_succ] at x0 x1
      have hf03 : Fr No wr w3 := ((Fr.refl No wr).alloc _).trans hf3
      have HF3 := Lib.hid (HFR.out.trans hf03)
      have HC3 := Lib.hid (HCT.out w3 wr.heap.size hf03 x0)
      have hok1 : okLg ⟨nm, sm⟩ = (nameB nm.data.toList && decide (sm ≠ 0)) := rfl
      clear hbx3 hf3 hf03 HNM HCT
      cases hn : nameB nm.data.toList
      · have HB := Lib.hid (HBAD.out (by rw [hok1, hn]; rfl))
        clear hn hok1 HBAD HNX HDUP HND HC3
        go_wp2
        go_ret
        exact ⟨by rw [HB.out]; rfl, HF3.out⟩
      · by_cases hs : sm = 0
        · have HB := Lib.hid (HBAD.out (by rw [hok1, hn, hs]; rfl))
          subst hs
          clear hn hok1 HBAD HNX HDUP HND HC3
          go_wp2
          go_ret
          exact ⟨by rw [HB.out]; rfl, HF3.out⟩
        · have HA := Lib.hid (HNX.out (by rw [hok1, hn]; simpa using hs))
          have hkc : k ≤ c := by have := HLC.out; omega
          have hk6 : k < 6 := by have := HLN.out; omega
          have hs2 : (sm == 0) = false := beq_eq_false_iff_ne.2 hs
          by_cases hm : (⟨nm, sm⟩ : Lg).nm ∈ (L.take k).map Lg.nm
          · have HB := Lib.hid (HDUP.out hm)
            rw [decide_eq_true hm] at HC3
            clear hn hok1 HBAD HNX HDUP HND hm hs
            go_wp2_with fail
            refine HC3.out.mono ?_
            rintro e w4 ⟨rfl, hf4⟩
            go_wp2
            go_ret
            exact ⟨by rw [HB.out]; rfl, HF3.out.trans hf4⟩
          · have HN := Lib.hid (HND.out hm)
            rw [decide_eq_false hm] at HC3
            clear hn hok1 HBAD HNX HDUP HND hm hs
            go_wp2_with fail
            refine HC3.out.mono ?_
            rintro e w4 ⟨rfl, hf4⟩
            go_wp2
            go_roundw
            case rel => exact ⟨k + 1, by omega, by go_num, HA.out, HN.out, HF3.out.trans hf4⟩
            case measure => simp [intOf]; omega
    · obtain rfl : k = L.length := by omega
      have HB : Hid (rightB L = true) := rightB_all HLN.out (by rw [List.take_length] at hall; exact hall) (by rw [List.take_length] at hnd; exact hnd)
      go_wp2
      go_ret
      exact ⟨by rw [HB.out]; rfl, hfr⟩
end Go.Proofs.YtdooapnnohbjjaaGreat

namespace Go.Proofs.YtdooapnnohbjjaaGreat
open Go.RowKit Go.My Go.Maps
set_option linter.unusedSimpArgs false
set_option linter.unusedVariables false
attribute [local go_sem ↓] Go.wp_at_zero Go.wp_at_succ

/-- an order -/
structure Od where
  cl : Int
  sq : Int
  kd : Int
  acct : ByteArray
  peer : ByteArray
  sum : Int
  legs : List Lg
  per : Int
  hold : Int
  note : ByteArray
def Od.an (o : Od) : List UInt8 := o.acct.data.toList
def Od.pn (o : Od) : List UInt8 := o.peer.data.toList
def Od.ok (o : Od) : Prop := In64 o.cl ∧ In64 o.sq ∧ In64 o.kd ∧ o.acct.size ≤ maxLen ∧ o.peer.size ≤ maxLen ∧ In64 o.sum ∧ In64 o.per ∧ In64 o.hold ∧ o.note.size ≤ maxLen
/-- its cells, the legs' slice given -/
def Od.cs (o : Od) (v : Value) : List Value := [.int .i64 o.cl, .int .i64 o.sq, .int .i64 o.kd, .string o.acct, .string o.peer, .int .i64 o.sum, v, .int .i64 o.per, .int .i64 o.hold, .string o.note]
/-- legs in memory -/
def LgS (w : World) (F : Nat → Prop) (v : Value) (L : List Lg) : Prop := ∃ A c cells, v = .slice A L.length c ∧ Rd w F 2 A L.length cells ∧ Each RdLg 2 cells L ∧ L.length ≤ c ∧ c ≤ maxLen
theorem LgS.no {w w' : World} {F : Nat → Prop} {v : Value} {L : List Lg} (h : LgS w F v L) (hf : Fr No w w') : LgS w' F v L := by
  obtain ⟨A, c, cells, rfl, hr, r⟩ := h
  exact ⟨A, c, cells, rfl, hr.fr (by omega) hf (fun _ _ _ h => h), r⟩

/-! ### which orders may be -/
def acctB (o : Od) : Bool := if o.kd = 2 ∨ o.kd = 6 then o.an.isEmpty else nameB o.an
def peerB (o : Od) : Bool := if o.kd = 4 then nameB o.pn && !(o.pn == o.an) else o.pn.isEmpty
def sumB (o : Od) : Bool := if o.kd = 1 then decide (0 ≤ o.sum) else if o.kd = 3 ∨ o.kd = 4 then decide (1 ≤ o.sum) else o.sum == 0
def legsB (o : Od) : Bool := if o.kd = 2 then rightB o.legs else o.legs.length == 0
def perB (o : Od) : Bool := if o.kd = 2 ∨ o.kd = 4 ∨ o.kd = 6 then decide (1 ≤ o.per) && decide (o.per ≤ 1000) else o.per == 0
def holdB (o : Od) : Bool := if o.kd = 4 ∨ o.kd = 5 then decide (1 ≤ o.hold) && decide (o.hold ≤ 9999) else o.hold == 0
def noteB (o : Od) : Bool := if o.kd = 2 then decide (o.note.data.toList.length ≤ 20) else o.note.data.toList.isEmpty
def rightO (o : Od) : Bool := decide (1 ≤ o.kd) && (decide (o.kd ≤ 7) && (idB o.cl o.sq && (acctB o && (peerB o && (sumB o && (legsB o && (perB o && (holdB o && noteB o))))))))

theorem zeroS (w : World) : (zeroValue 98).run Tryz.prog w = .ok (.agg zs7) w := by kernel_rfl
theorem shapeF_none {k : Int} (h : ¬ (1 ≤ k ∧ k ≤ 7)) : shapeF k = none := by
  unfold shapeF
  rw [if_neg (by omega), if_neg (by omega), if_neg (by omega), if_neg (by omega), if_neg (by omega), if_neg (by omega), if_neg (by omega)]
end Go.Proofs.YtdooapnnohbjjaaGreat

namespace Go.Proofs.YtdooapnnohbjjaaGreat
open Go.RowKit Go.My Go.Maps
set_option linter.unusedSimpArgs false
set_option linter.unusedVariables false
attribute [local go_sem ↓] Go.wp_at_zero Go.wp_at_succ

noncomputable def rg1s : { c : Code // regOf 1 Tryz.f21 = c } := ⟨_, by conv => lhs; whnf⟩
noncomputable def rg1 : Code := rg1s.1
def rgF (v0 v3 v4 v5 v6 v7 v8 v9 v10 v11 : Value) (b : Nat) : Array Value :=
  (v0 :: .pointer (some ⟨b, 0, none⟩) :: .bool false :: v3 :: v4 :: v5 :: v6 :: v7 :: v8 :: v9 :: v10 :: v11 :: undef :: undef :: undef :: undef :: undef :: undef :: undef :: undef :: undef :: undef :: undef :: undef :: undef :: undef :: undef :: undef :: undef :: undef :: undef :: undef :: undef :: undef :: undef :: undef :: undef :: undef :: undef :: undef :: undef :: undef :: undef :: undef :: undef :: undef :: undef :: undef :: undef :: undef :: undef :: undef :: undef :: undef :: undef :: undef :: undef :: undef :: undef :: undef :: undef :: undef :: undef :: undef :: undef :: undef :: undef :: undef :: undef :: []).toArray
set_option maxRecDepth 100000 in
set_option maxHeartbeats 4000000 in
theorem rg1_some {w : World} {b : Nat} {v0 : Value} {Q : Exit → Act → World → Prop} {c0 c1 c2 c3 c4 c5 c6 : FuncId} {o : Od} {v : Value} (hkd : In64 o.kd) (hb : Blk w b 37 (o.cs v).toArray) (hk : shapeF o.kd = some (.agg (shp c0 c1 c2 c3 c4 c5 c6)))
    (hQ : ∀ (p : Nat) (v5 v6 v7 v8 v9 v10 v11 : Value) w', Blk w' p 98 (shp c0 c1 c2 c3 c4 c5 c6) → Fr No w w' → Q .normal ⟨rgF v0 (.pointer (some ⟨p, 0, none⟩)) (.bool true) v5 v6 v7 v8 v9 v10 v11 b, []⟩ w') :
    Code.wp Tryz.prog rg1 Q ⟨rgF v0 undef undef undef undef undef undef undef undef undef b, []⟩ w := by
  have x2 := hb.cell 2
  simp only [Od.cs, List.getElem?_toArray, List.getElem?_cons_zero, List.getElem?_cons_succ] at x2
  have HX : Hid (∀ W, Fr No w W → Fr No w W ∧ W.cell? ⟨b, 2, none⟩ = some (.int .i64 o.kd)) := fun W hW => ⟨hW, hW.cell_some x2 (fun h => h)⟩
  have HSH := Lib.hid (fun W => shapes_any W)
  have hw1 : Fr No w w.drew := (Fr.refl No w).drew
  have HQ := Lib.hid hQ
  have HB := Lib.hid hb.lt
  have HLK : Hid (∀ m W, Tab Tryz.prog 3 W m 7 shapeF → (Instr.lookup 100 (.map (some m)) (.int .i64 o.kd) true).run Tryz.prog W = .ok (.tuple #[.agg #[.func (.func c0) #[] #[], .func (.func c1) #[] #[], .func (.func c2) #[] #[], .func (.func c3) #[] #[], .func (.func c4) #[] #[], .func (.func c5) #[] #[], .func (.func c6) #[] #[]], .bool true]) W) := fun m W h => by
    have h1 := h.look_ok Tryz.underlying3 Tryz.underlying100 (zeroS W) o.kd hkd
    rw [hk] at h1
    exact h1
  clear hb hQ x2 hk
  unfold rgF
  conv => arg 2; whnf
  refine wp_region_noPanic ?_
  have y0 := (HX.out _ hw1).2
  have y1 := fun O => (HX.out _ ((Fr.refl No w).alloc O).drew).2
  go_region_with (go_at_call 38; (with_reducible refine (HSH.out _).mono ?_); rintro e w4 ⟨m, rfl, hT, hf4⟩; have hlk := HLK.out m _ hT; have hlka := (fun O => HLK.out m _ (hT.fr ((Fr.refl No _).alloc O) (fun h => h))); have hg4 := (fun h => Fr.trans (S := No) (a := w) h hf4) (by first | exact hw1 | exact (Fr.drew (Fr.alloc (Fr.refl No w) _))); have y4 := (HX.out _ hg4).2; have y5 := (fun O => (HX.out _ (hg4.alloc O)).2); (try (have hbz : Blk w4 w.heap.size 98 zs7 := Blk.fr (w := ((w.alloc (.cells zs7 98)).drew)) (Blk.new w 98 zs7) hf4 (fun h => h); have z0 := hbz.cell 0; have z1 := hbz.cell 1; have z2 := hbz.cell 2; have z3 := hbz.cell 3; have z4 := hbz.cell 4; have z5 := hbz.cell 5; have z6 := hbz.cell 6; have fz := hbz.frozen; simp only [zs7, List.getElem?_toArray, List.getElem?_cons_zero, List.getElem?_cons_succ] at z0 z1 z2 z3 z4 z5 z6)))
  all_goals
    refine HQ.out _ _ _ _ _ _ _ _ _ ?_ ?_
  all_goals
    first
      | (unfold shp fnV; with_reducible exact Blk.new w4 _ _)
      | (with_reducible exact hg4.alloc _)
      | exact ((((((hbz.set_ 0 _).set_ 1 _).set_ 2 _).set_ 3 _).set_ 4 _).set_ 5 _).set_ 6 _
      | exact ((((((hg4.setCell (p := ⟨w.heap.size, 0, none⟩) (fun h => absurd h (Nat.lt_irrefl _)) _).setCell (p := ⟨w.heap.size, 1, none⟩) (fun h => absurd h (Nat.lt_irrefl _)) _).setCell (p := ⟨w.heap.size, 2, none⟩) (fun h => absurd h (Nat.lt_irrefl _)) _).setCell (p := ⟨w.heap.size, 3, none⟩) (fun h => absurd h (Nat.lt_irrefl _)) _).setCell (p := ⟨w.heap.size, 4, none⟩) (fun h => absurd h (Nat.lt_irrefl _)) _).setCell (p := ⟨w.heap.size, 5, none⟩) (fun h => absurd h (Nat.lt_irrefl _)) _).setCell (p := ⟨w.heap.size, 6, none⟩) (fun h => absurd h (Nat.lt_irrefl _)) _
set_option maxRecDepth 100000 in
set_option maxHeartbeats 4000000 in
theorem rg1_none {w : World} {b : Nat} {v0 : Value} {Q : Exit → Act → World → Prop} {o : Od} {v : Value} (hkd : In64 o.kd) (hb : Blk w b 37 (o.cs v).toArray) (hk : shapeF o.kd = none)
    (hQ : ∀ (p : Nat) (v5 v6 v7 v8 v9 v10 v11 : Value) w', Fr No w w' → Q .normal ⟨rgF v0 (.pointer (some ⟨p, 0, none⟩)) (.bool false) v5 v6 v7 v8 v9 v10 v11 b, []⟩ w') :
    Code.wp Tryz.prog rg1 Q ⟨rgF v0 undef undef undef undef undef undef undef undef undef b, []⟩ w := by
  have x2 := hb.cell 2
  simp only [Od.cs, List.getElem?_toArray, List.getElem?_cons_zero, List.getElem?_cons_succ] at x2
  have HX : Hid (∀ W, Fr No w W → Fr No w W ∧ W.cell? ⟨b, 2, none⟩ = some (.int .i64 o.kd)) := fun W hW => ⟨hW, hW.cell_some x2 (fun h => h)⟩
  have HSH := Lib.hid (fun W => shapes_any W)
  have hw1 : Fr No w w.drew := (Fr.refl No w).drew
  have HQ := Lib.hid hQ
  have HB := Lib.hid hb.lt
  have HLK : Hid (∀ m W, Tab Tryz.prog 3 W m 7 shapeF → (Instr.lookup 100 (.map (some m)) (.int .i64 o.kd) true).run Tryz.prog W = .ok (.tuple #[.agg #[.nilFunc, .nilFunc, .nilFunc, .nilFunc, .nilFunc, .nilFunc, .nilFunc], .bool false]) W) := fun m W h => by
    have h1 := h.look_ok Tryz.underlying3 Tryz.underlying100 (zeroS W) o.kd hkd
    rw [hk] at h1
    exact h1
  clear hb hQ x2 hk
  unfold rgF
  conv => arg 2; whnf
  refine wp_region_noPanic ?_
  have y0 := (HX.out _ hw1).2
  have y1 := fun O => (HX.out _ ((Fr.refl No w).alloc O).drew).2
  go_region_with (go_at_call 38; (with_reducible refine (HSH.out _).mono ?_); rintro e w4 ⟨m, rfl, hT, hf4⟩; have hlk := HLK.out m _ hT; have hlka := (fun O => HLK.out m _ (hT.fr ((Fr.refl No _).alloc O) (fun h => h))); have hg4 := (fun h => Fr.trans (S := No) (a := w) h hf4) (by first | exact hw1 | exact (Fr.drew (Fr.alloc (Fr.refl No w) _))); have y4 := (HX.out _ hg4).2; have y5 := (fun O => (HX.out _ (hg4.alloc O)).2); (try (have hbz : Blk w4 w.heap.size 98 zs7 := Blk.fr (w := ((w.alloc (.cells zs7 98)).drew)) (Blk.new w 98 zs7) hf4 (fun h => h); have z0 := hbz.cell 0; have z1 := hbz.cell 1; have z2 := hbz.cell 2; have z3 := hbz.cell 3; have z4 := hbz.cell 4; have z5 := hbz.cell 5; have z6 := hbz.cell 6; have fz := hbz.frozen; simp only [zs7, List.getElem?_toArray, List.getElem?_cons_zero, List.getElem?_cons_succ] at z0 z1 z2 z3 z4 z5 z6)))
  all_goals
    refine HQ.out _ _ _ _ _ _ _ _ _ ?_
  all_goals
    first
      | (with_reducible exact hg4.alloc _)
      | exact ((((((hg4.setCell (p := ⟨w.heap.size, 0, none⟩) (fun h => absurd h (Nat.lt_irrefl _)) _).setCell (p := ⟨w.heap.size, 1, none⟩) (fun h => absurd h (Nat.lt_irrefl _)) _).setCell (p := ⟨w.heap.size, 2, none⟩) (fun h => absurd h (Nat.lt_irrefl _)) _).setCell (p := ⟨w.heap.size, 3, none⟩) (fun h => absurd h (Nat.lt_irrefl _)) _).setCell (p := ⟨w.heap.size, 4, none⟩) (fun h => absurd h (Nat.lt_irrefl _)) _).setCell (p := ⟨w.heap.size, 5, none⟩) (fun h => absurd h (Nat.lt_irrefl _)) _).setCell (p := ⟨w.heap.size, 6, none⟩) (fun h => absurd h (Nat.lt_irrefl _)) _
end Go.Proofs.YtdooapnnohbjjaaGreat

namespace Go.Proofs.YtdooapnnohbjjaaGreat
open Go.RowKit Go.My Go.Maps
set_option linter.unusedSimpArgs false
set_option linter.unusedVariables false
attribute [local go_sem ↓] Go.wp_at_zero Go.wp_at_succ

def Od.val (o : Od) (v : Value) : Value := .agg (o.cs v).toArray
/-- the functions of a kind's fields are asked one after another -/
structure Asks (o : Od) (v : Value) (w : World) (c0 c1 c2 c3 c4 c5 c6 : FuncId) (b0 b1 b2 b3 b4 b5 b6 : Bool) : Prop where
  a0 : AnsB c0 #[.string o.acct] b0
  a1 : AnsB c1 #[.string o.peer, .string o.acct] b1
  a2 : AnsB c2 #[.int .i64 o.sum] b2
  a3 : ∀ W, Fr No w W → Calls Tryz.prog c3 #[v] W fun e w' => e = .returned (.bool b3) ∧ Fr No W w'
  a4 : AnsB c4 #[.int .i64 o.per] b4
  a5 : AnsB c5 #[.int .i64 o.hold] b5
  a6 : AnsB c6 #[.string o.note] b6
  e0 : ∀ args W, (callFunc c0 args).run Tryz.prog W = .ok (.enter c0 args) W
  e1 : ∀ args W, (callFunc c1 args).run Tryz.prog W = .ok (.enter c1 args) W
  e2 : ∀ args W, (callFunc c2 args).run Tryz.prog W = .ok (.enter c2 args) W
  e3 : ∀ args W, (callFunc c3 args).run Tryz.prog W = .ok (.enter c3 args) W
  e4 : ∀ args W, (callFunc c4 args).run Tryz.prog W = .ok (.enter c4 args) W
  e5 : ∀ args W, (callFunc c5 args).run Tryz.prog W = .ok (.enter c5 args) W
  e6 : ∀ args W, (callFunc c6 args).run Tryz.prog W = .ok (.enter c6 args) W
set_option maxRecDepth 100000 in
set_option maxHeartbeats 4000000 in
theorem right_some {o : Od} {v : Value} {w : World} {c0 c1 c2 c3 c4 c5 c6 : FuncId} {b0 b1 b2 b3 b4 b5 b6 : Bool} (ho : o.ok) (hk : shapeF o.kd = some (.agg (shp c0 c1 c2 c3 c4 c5 c6))) (hA : Asks o v w c0 c1 c2 c3 c4 c5 c6 b0 b1 b2 b3 b4 b5 b6) :
    Calls Tryz.prog 21 #[o.val v] w fun e w' => e = .returned (.bool (idB o.cl o.sq && (b0 && (b1 && (b2 && (b3 && (b4 && (b5 && b6)))))))) ∧ Fr No w w' := by
  have HA := Lib.hid hA
  have HID := Lib.hid (ansId o.cl o.sq)
  have HBX := Lib.hid (Blk.new w 37 (o.cs v).toArray)
  have HO := Lib.hid ho
  have HK := Lib.hid hk
  clear ho hk hA
  unfold Od.val
  obtain ⟨ocl, osq, okd, oac, ope, osm, olg, opr, ohd, ont⟩ := o
  unfold Od.cs at *
  go_enter Tryz.func21, Tryz.ntmps21
  go_wp2
  refine rg1_some (o := ⟨ocl, osq, okd, oac, ope, osm, olg, opr, ohd, ont⟩) (v := v) HO.out.2.2.1 HBX.out HK.out fun p v5 v6 v7 v8 v9 v10 v11 w2 hbp hf2 => ?_
  unfold rgF
  have HF2 : Hid (Fr No w w2) := ((Fr.refl No w).alloc _).trans hf2
  have hbx := HBX.out.fr hf2 (fun h => h)
  have HBX2 := Lib.hid hbx
  have HBP := Lib.hid hbp
  have HX : Hid (∀ W, Fr No w2 W → W.cell? ⟨w.heap.size, 0, none⟩ = some (.int .i64 ocl) ∧ W.cell? ⟨w.heap.size, 1, none⟩ = some (.int .i64 osq) ∧ W.cell? ⟨w.heap.size, 3, none⟩ = some (.string oac) ∧ W.cell? ⟨w.heap.size, 4, none⟩ = some (.string ope) ∧ W.cell? ⟨w.heap.size, 5, none⟩ = some (.int .i64 osm) ∧ W.cell? ⟨w.heap.size, 6, none⟩ = some v ∧ W.cell? ⟨w.heap.size, 7, none⟩ = some (.int .i64 opr) ∧ W.cell? ⟨w.heap.size, 8, none⟩ = some (.int .i64 ohd) ∧ W.cell? ⟨w.heap.size, 9, none⟩ = some (.string ont)) := fun W hW => by
    have h := HBX2.out.fr hW (fun h => h)
    exact ⟨h.cell 0, h.cell 1, h.cell 3, h.cell 4, h.cell 5, h.cell 6, h.cell 7, h.cell 8, h.cell 9⟩
  have HP : Hid (∀ W, Fr No w2 W → W.cell? ⟨p, 0, none⟩ = some (.func (.func c0) #[] #[]) ∧ W.cell? ⟨p, 1, none⟩ = some (.func (.func c1) #[] #[]) ∧ W.cell? ⟨p, 2, none⟩ = some (.func (.func c2) #[] #[]) ∧ W.cell? ⟨p, 3, none⟩ = some (.func (.func c3) #[] #[]) ∧ W.cell? ⟨p, 4, none⟩ = some (.func (.func c4) #[] #[]) ∧ W.cell? ⟨p, 5, none⟩ = some (.func (.func c5) #[] #[]) ∧ W.cell? ⟨p, 6, none⟩ = some (.func (.func c6) #[] #[])) := fun W hW => by
    have h := HBP.out.fr hW (fun h => h)
    exact ⟨h.cell 0, h.cell 1, h.cell 2, h.cell 3, h.cell 4, h.cell 5, h.cell 6⟩
  clear hbp hf2 hbx HBX HBX2 HBP HK HO
  have a0 := HA.out.a0
  have a1 := HA.out.a1
  have a2 := HA.out.a2
  have a3 := HA.out.a3
  have a4 := HA.out.a4
  have a5 := HA.out.a5
  have a6 := HA.out.a6
  simp only at a0 a1 a2 a3 a4 a5 a6
  have A0 := Lib.hid a0
  have A1 := Lib.hid a1
  have A2 := Lib.hid a2
  have A3 := Lib.hid a3
  have A4 := Lib.hid a4
  have A5 := Lib.hid a5
  have A6 := Lib.hid a6
  have e0 := HA.out.e0
  have e1 := HA.out.e1
  have e2 := HA.out.e2
  have e3 := HA.out.e3
  have e4 := HA.out.e4
  have e5 := HA.out.e5
  have e6 := HA.out.e6
  clear a0 a1 a2 a3 a4 a5 a6 HA
  obtain ⟨x0, x1, x3, x4, x5, x6, x7, x8, x9⟩ := HX.out _ (Fr.refl No w2)
  go_wp2_with fail
  refine (HID.out _).mono ?_
  rintro e u0 ⟨rfl, hg0⟩
  have HG0 := Lib.hid hg0
  clear hg0 x0 x1 x3 x4 x5 x6 x7 x8 x9
  cases hi : idB ocl osq
  · clear e0 e1 e2 e3 e4 e5 e6
    go_wp2
    go_ret
    exact ⟨by rw [hi]; rfl, HF2.out.trans HG0.out⟩
  obtain ⟨x0, x1, x3, x4, x5, x6, x7, x8, x9⟩ := HX.out _ HG0.out
  obtain ⟨y0, y1, y2, y3, y4, y5, y6⟩ := HP.out _ HG0.out
  go_wp2_with fail
  refine (A0.out _).mono ?_
  rintro e u1 ⟨rfl, hg1⟩
  have HG1 := Lib.hid (HG0.out.trans hg1)
  clear hg1 x0 x1 x3 x4 x5 x6 x7 x8 x9 y0 y1 y2 y3 y4 y5 y6
  cases b0
  · clear e0 e1 e2 e3 e4 e5 e6
    go_wp2
    go_ret
    exact ⟨by rw [hi]; rfl, HF2.out.trans HG1.out⟩
  obtain ⟨x0, x1, x3, x4, x5, x6, x7, x8, x9⟩ := HX.out _ HG1.out
  obtain ⟨y0, y1, y2, y3, y4, y5, y6⟩ := HP.out _ HG1.out
  go_wp2_with fail
  refine (A1.out _).mono ?_
  rintro e u2 ⟨rfl, hg2⟩
  have HG2 := Lib.hid (HG1.out.trans hg2)
  clear hg2 x0 x1 x3 x4 x5 x6 x7 x8 x9 y0 y1 y2 y3 y4 y5 y6
  cases b1
  · clear e0 e1 e2 e3 e4 e5 e6
    go_wp2
    go_ret
    exact ⟨by rw [hi]; rfl, HF2.out.trans HG2.out⟩
  obtain ⟨x0, x1, x3, x4, x5, x6, x7, x8, x9⟩ := HX.out _ HG2.out
  obtain ⟨y0, y1, y2, y3, y4, y5, y6⟩ := HP.out _ HG2.out
  go_wp2_with fail
  refine (A2.out _).mono ?_
  rintro e u3 ⟨rfl, hg3⟩
  have HG3 := Lib.hid (HG2.out.trans hg3)
  clear hg3 x0 x1 x3 x4 x5 x6 x7 x8 x9 y0 y1 y2 y3 y4 y5 y6
  cases b2
  · clear e0 e1 e2 e3 e4 e5 e6
    go_wp2
    go_ret
    exact ⟨by rw [hi]; rfl, HF2.out.trans HG3.out⟩
  obtain ⟨x0, x1, x3, x4, x5, x6, x7, x8, x9⟩ := HX.out _ HG3.out
  obtain ⟨y0, y1, y2, y3, y4, y5, y6⟩ := HP.out _ HG3.out
  go_wp2_with fail
  refine (A3.out _ (HF2.out.trans HG3.out)).mono ?_
  rintro e u4 ⟨rfl, hg4⟩
  have HG4 := Lib.hid (HG3.out.trans hg4)
  clear hg4 x0 x1 x3 x4 x5 x6 x7 x8 x9 y0 y1 y2 y3 y4 y5 y6
  cases b3
  · clear e0 e1 e2 e3 e4 e5 e6
    go_wp2
    go_ret
    exact ⟨by rw [hi]; rfl, HF2.out.trans HG4.out⟩
  obtain ⟨x0, x1, x3, x4, x5, x6, x7, x8, x9⟩ := HX.out _ HG4.out
  obtain ⟨y0, y1, y2, y3, y4, y5, y6⟩ := HP.out _ HG4.out
  go_wp2_with fail
  refine (A4.out _).mono ?_
  rintro e u5 ⟨rfl, hg5⟩
  have HG5 := Lib.hid (HG4.out.trans hg5)
  clear hg5 x0 x1 x3 x4 x5 x6 x7 x8 x9 y0 y1 y2 y3 y4 y5 y6
  cases b4
  · clear e0 e1 e2 e3 e4 e5 e6
    go_wp2
    go_ret
    exact ⟨by rw [hi]; rfl, HF2.out.trans HG5.out⟩
  obtain ⟨x0, x1, x3, x4, x5, x6, x7, x8, x9⟩ := HX.out _ HG5.out
  obtain ⟨y0, y1, y2, y3, y4, y5, y6⟩ := HP.out _ HG5.out
  go_wp2_with fail
  refine (A5.out _).mono ?_
  rintro e u6 ⟨rfl, hg6⟩
  have HG6 := Lib.hid (HG5.out.trans hg6)
  clear hg6 x0 x1 x3 x4 x5 x6 x7 x8 x9 y0 y1 y2 y3 y4 y5 y6
  cases b5
  · clear e0 e1 e2 e3 e4 e5 e6
    go_wp2
    go_ret
    exact ⟨by rw [hi]; rfl, HF2.out.trans HG6.out⟩
  obtain ⟨x0, x1, x3, x4, x5, x6, x7, x8, x9⟩ := HX.out _ HG6.out
  obtain ⟨y0, y1, y2, y3, y4, y5, y6⟩ := HP.out _ HG6.out
  go_wp2_with fail
  refine (A6.out _).mono ?_
  rintro e u7 ⟨rfl, hg7⟩
  have HG7 := Lib.hid (HG6.out.trans hg7)
  clear hg7 x0 x1 x3 x4 x5 x6 x7 x8 x9 y0 y1 y2 y3 y4 y5 y6
  clear e0 e1 e2 e3 e4 e5 e6
  go_wp2
  go_ret
  exact ⟨by rw [hi]; rfl, HF2.out.trans HG7.out⟩
set_option maxRecDepth 100000 in
set_option maxHeartbeats 4000000 in
theorem right_none {o : Od} {v : Value} {w : World} (ho : o.ok) (hk : shapeF o.kd = none) :
    Calls Tryz.prog 21 #[o.val v] w fun e w' => e = .returned (.bool false) ∧ Fr No w w' := by
  have HBX := Lib.hid (Blk.new w 37 (o.cs v).toArray)
  have HO := Lib.hid ho
  have HK := Lib.hid hk
  clear ho hk
  unfold Od.val
  obtain ⟨ocl, osq, okd, oac, ope, osm, olg, opr, ohd, ont⟩ := o
  unfold Od.cs at *
  go_enter Tryz.func21, Tryz.ntmps21
  go_wp2
  refine rg1_none (o := ⟨ocl, osq, okd, oac, ope, osm, olg, opr, ohd, ont⟩) (v := v) HO.out.2.2.1 HBX.out HK.out fun p v5 v6 v7 v8 v9 v10 v11 w2 hf2 => ?_
  unfold rgF
  have HF2 : Hid (Fr No w w2) := ((Fr.refl No w).alloc _).trans hf2
  clear hf2 HBX HK HO
  go_wp2
  go_ret
  exact ⟨rfl, HF2.out⟩

theorem k_name (args : Array Value) (W : World) : (callFunc 70 args).run Tryz.prog W = .ok (.enter 70 args) W := by kernel_rfl
theorem k_1 (args : Array Value) (W : World) : (callFunc 63 args).run Tryz.prog W = .ok (.enter 63 args) W := by kernel_rfl
theorem k_2 (args : Array Value) (W : World) : (callFunc 64 args).run Tryz.prog W = .ok (.enter 64 args) W := by kernel_rfl
theorem k_3 (args : Array Value) (W : World) : (callFunc 65 args).run Tryz.prog W = .ok (.enter 65 args) W := by kernel_rfl
theorem k_4 (args : Array Value) (W : World) : (callFunc 66 args).run Tryz.prog W = .ok (.enter 66 args) W := by kernel_rfl
theorem k_5 (args : Array Value) (W : World) : (callFunc 67 args).run Tryz.prog W = .ok (.enter 67 args) W := by kernel_rfl
theorem k_6 (args : Array Value) (W : World) : (callFunc 68 args).run Tryz.prog W = .ok (.enter 68 args) W := by kernel_rfl
theorem k_7 (args : Array Value) (W : World) : (callFunc 69 args).run Tryz.prog W = .ok (.enter 69 args) W := by kernel_rfl
theorem k_8 (args : Array Value) (W : World) : (callFunc 71 args).run Tryz.prog W = .ok (.enter 71 args) W := by kernel_rfl
theorem k_legs (args : Array Value) (W : World) : (callFunc 72 args).run Tryz.prog W = .ok (.enter 72 args) W := by kernel_rfl
theorem k_per (args : Array Value) (W : World) : (callFunc 73 args).run Tryz.prog W = .ok (.enter 73 args) W := by kernel_rfl
theorem k_hold (args : Array Value) (W : World) : (callFunc 77 args).run Tryz.prog W = .ok (.enter 77 args) W := by kernel_rfl
theorem k_note (args : Array Value) (W : World) : (callFunc 74 args).run Tryz.prog W = .ok (.enter 74 args) W := by kernel_rfl
theorem k_sum (args : Array Value) (W : World) : (callFunc 75 args).run Tryz.prog W = .ok (.enter 75 args) W := by kernel_rfl
theorem k_peer (args : Array Value) (W : World) : (callFunc 76 args).run Tryz.prog W = .ok (.enter 76 args) W := by kernel_rfl

/-- which orders may be -/
theorem rightO_any (F : Nat → Prop) (o : Od) (v : Value) (w : World) (ho : o.ok) (hv : LgS w F v o.legs) :
    Calls Tryz.prog 21 #[o.val v] w fun e w' => e = .returned (.bool (rightO o)) ∧ Fr No w w' := by
  have hLg : ∀ W, Fr No w W → Calls Tryz.prog 72 #[v] W fun e w' => e = .returned (.bool (rightB o.legs)) ∧ Fr No W w' := fun W hW => by
    obtain ⟨A, c, cells, rfl, hr, hE, h1, h2⟩ := hv.no hW
    exact rightLegs_any F A c cells o.legs W hr hE h1 h2
  have hL4 : ∀ W, Fr No w W → Calls Tryz.prog 66 #[v] W fun e w' => e = .returned (.bool (o.legs.length == 0)) ∧ Fr No W w' := fun W hW => by
    obtain ⟨A, c, cells, rfl, hr, hE, h1, h2⟩ := hv
    exact ans4 A o.legs.length c W
  have hName := ansName o.acct ho.2.2.2.1
  have hPeer := ansPeer o.peer o.acct ho.2.2.2.2.1
  by_cases hk : 1 ≤ o.kd ∧ o.kd ≤ 7
  · have e1 : decide (1 ≤ o.kd) = true := decide_eq_true hk.1
    have e2 : decide (o.kd ≤ 7) = true := decide_eq_true hk.2
    unfold rightO
    rw [e1, e2, Bool.true_and, Bool.true_and]
    have h7 : o.kd = 1 ∨ o.kd = 2 ∨ o.kd = 3 ∨ o.kd = 4 ∨ o.kd = 5 ∨ o.kd = 6 ∨ o.kd = 7 := by omega
    unfold acctB peerB sumB legsB perB holdB noteB
    rcases h7 with h | h | h | h | h | h | h <;> simp only [h, Int.reduceEq, if_true, if_false, or_true, true_or, or_false, or_self, false_or]
    · exact right_some ho (by rw [h]; rfl) ⟨hName, ans2 _ _, ans8 _, hL4, ans5 _, ans6 _, ans7 _, k_name, k_2, k_8, k_4, k_5, k_6, k_7⟩
    · exact right_some ho (by rw [h]; rfl) ⟨ans1 _, ans2 _ _, ans3 _, hLg, ansPeriod _, ans6 _, ansNote _, k_1, k_2, k_3, k_legs, k_per, k_6, k_note⟩
    · exact right_some ho (by rw [h]; rfl) ⟨hName, ans2 _ _, ansSum _, hL4, ans5 _, ans6 _, ans7 _, k_name, k_2, k_sum, k_4, k_5, k_6, k_7⟩
    · exact right_some ho (by rw [h]; rfl) ⟨hName, hPeer, ansSum _, hL4, ansPeriod _, ansHold _, ans7 _, k_name, k_peer, k_sum, k_4, k_per, k_hold, k_7⟩
    · exact right_some ho (by rw [h]; rfl) ⟨hName, ans2 _ _, ans3 _, hL4, ans5 _, ansHold _, ans7 _, k_name, k_2, k_3, k_4, k_5, k_hold, k_7⟩
    · exact right_some ho (by rw [h]; rfl) ⟨ans1 _, ans2 _ _, ans3 _, hL4, ansPeriod _, ans6 _, ans7 _, k_1, k_2, k_3, k_4, k_per, k_6, k_7⟩
    · exact right_some ho (by rw [h]; rfl) ⟨hName, ans2 _ _, ans3 _, hL4, ans5 _, ans6 _, ans7 _, k_name, k_2, k_3, k_4, k_5, k_6, k_7⟩
  · have e : rightO o = false := by
      unfold rightO
      by_cases h1 : 1 ≤ o.kd
      · have : decide (o.kd ≤ 7) = false := decide_eq_false (fun h => hk ⟨h1, h⟩)
        rw [this, Bool.false_and, Bool.and_false]
      · rw [decide_eq_false h1, Bool.false_and]
    rw [e]
    exact right_none ho (shapeF_none hk)
end Go.Proofs.YtdooapnnohbjjaaGreat

namespace Go.Proofs.YtdooapnnohbjjaaGreat
open Go.RowKit Go.My Go.Maps
set_option linter.unusedSimpArgs false
set_option linter.unusedVariables false
theorem LgS_zero (w : World) (F : Nat → Prop) (A : Option Addr) (c : Nat) (hc : c ≤ maxLen) : LgS w F (.slice A 0 c) [] := ⟨A, c, [], rfl, ⟨by simp, fun h => absurd h (by simp)⟩, ⟨rfl, fun i x hx => by simp at hx⟩, Nat.zero_le _, hc⟩
theorem LgS_nil (w : World) (F : Nat → Prop) : LgS w F (.slice none 0 0) [] := ⟨none, 0, [], rfl, Rd.none_, ⟨rfl, fun i x hx => by simp at hx⟩, Nat.le_refl _, by unfold maxLen; omega⟩
section
open Go.ChangeShapes Go.WideShapes
variable {H : Type} {enc : TypeId × Value → H} {w : World} {base : Nat} {spare : Nat → Bool} {held : Bool}
set_option maxRecDepth 100000 in
theorem open_id {n : Nat} {cs : List Value} {x : DataW H × List MemPlace} (h : DataW.trod enc Tryz.prog w base spare held n 34 cs = some x) : ∃ a b : Int, cs = [.int .i64 a, .int .i64 b] ∧ In64 a ∧ In64 b := by
  obtain ⟨xs, m, _, _, hl, _, hf⟩ := DataW.trod_struct Tryz.underlying34 h
  have hC : Tryz.prog.cellsOf 34 = 2 := by kernel_rfl
  have C3 : Tryz.prog.cellsOf 3 = 1 := by kernel_rfl
  rw [hC] at hl
  match cs, hl with
  | [v0, v1], _ =>
    have f0 : DataW.trod enc Tryz.prog w base spare held m 3 [v0] = xs[0]? := by have := hf 0 _ rfl; simpa [C3] using this
    have f1 : DataW.trod enc Tryz.prog w base spare held m 3 [v1] = xs[1]? := by have := hf 1 _ rfl; simpa [C3] using this
    have g : ∀ i, i < xs.length → ∃ y, xs[i]? = some y := fun i hi => ⟨xs[i], List.getElem?_eq_getElem hi⟩
    have hxl : xs.length = 2 := by assumption
    obtain ⟨y0, e0⟩ := g 0 (by omega)
    obtain ⟨y1, e1⟩ := g 1 (by omega)
    rw [e0] at f0; rw [e1] at f1
    obtain ⟨k0, hk0, _, wk0⟩ := DataW.trod_int Tryz.underlying3 f0
    obtain ⟨k1, hk1, _, wk1⟩ := DataW.trod_int Tryz.underlying3 f1
    simp only [List.cons.injEq, and_true] at hk0 hk1
    subst hk0 hk1
    exact ⟨k0, k1, rfl, bounds_i64 wk0, bounds_i64 wk1⟩
/-- legs that came in are right in kind -/
def OdI (w : World) (o : Od) (v : Value) : Prop := o.ok ∧ (∀ g ∈ o.legs, g.ok) ∧ LgS w (Lt w.heap.size) v o.legs
set_option maxRecDepth 100000 in
theorem open_od {n : Nat} {cs : List Value} {x : DataW H × List MemPlace} (h : DataW.trod enc Tryz.prog w base spare held n 37 cs = some x) : ∃ (o : Od) (v : Value), cs = o.cs v ∧ OdI w o v := by
  obtain ⟨xs, m, _, _, hl, _, hf⟩ := DataW.trod_struct Tryz.underlying37 h
  have hC : Tryz.prog.cellsOf 37 = 10 := by kernel_rfl
  have C0 : Tryz.prog.cellsOf 34 = 2 := by kernel_rfl
  have C1 : Tryz.prog.cellsOf 9 = 1 := by kernel_rfl
  have C2 : Tryz.prog.cellsOf 2 = 1 := by kernel_rfl
  have C3 : Tryz.prog.cellsOf 3 = 1 := by kernel_rfl
  have C4 : Tryz.prog.cellsOf 35 = 1 := by kernel_rfl
  rw [hC] at hl
  match cs, hl with
  | [v0, v1, v2, v3, v4, v5, v6, v7, v8, v9], _ =>
    have f0 : DataW.trod enc Tryz.prog w base spare held m 34 [v0, v1] = xs[0]? := by have := hf 0 _ rfl; simpa [C0, C1, C2, C3, C4] using this
    have f1 : DataW.trod enc Tryz.prog w base spare held m 3 [v2] = xs[1]? := by have := hf 1 _ rfl; simpa [C0, C1, C2, C3, C4] using this
    have f2 : DataW.trod enc Tryz.prog w base spare held m 9 [v3] = xs[2]? := by have := hf 2 _ rfl; simpa [C0, C1, C2, C3, C4] using this
    have f3 : DataW.trod enc Tryz.prog w base spare held m 9 [v4] = xs[3]? := by have := hf 3 _ rfl; simpa [C0, C1, C2, C3, C4] using this
    have f4 : DataW.trod enc Tryz.prog w base spare held m 2 [v5] = xs[4]? := by have := hf 4 _ rfl; simpa [C0, C1, C2, C3, C4] using this
    have f5 : DataW.trod enc Tryz.prog w base spare held m 35 [v6] = xs[5]? := by have := hf 5 _ rfl; simpa [C0, C1, C2, C3, C4] using this
    have f6 : DataW.trod enc Tryz.prog w base spare held m 3 [v7] = xs[6]? := by have := hf 6 _ rfl; simpa [C0, C1, C2, C3, C4] using this
    have f7 : DataW.trod enc Tryz.prog w base spare held m 3 [v8] = xs[7]? := by have := hf 7 _ rfl; simpa [C0, C1, C2, C3, C4] using this
    have f8 : DataW.trod enc Tryz.prog w base spare held m 9 [v9] = xs[8]? := by have := hf 8 _ rfl; simpa [C0, C1, C2, C3, C4] using this
    have g : ∀ i, i < xs.length → ∃ y, xs[i]? = some y := fun i hi => ⟨xs[i], List.getElem?_eq_getElem hi⟩
    have hxl : xs.length = 9 := by assumption
    obtain ⟨y0, e0⟩ := g 0 (by omega)
    obtain ⟨y1, e1⟩ := g 1 (by omega)
    obtain ⟨y2, e2⟩ := g 2 (by omega)
    obtain ⟨y3, e3⟩ := g 3 (by omega)
    obtain ⟨y4, e4⟩ := g 4 (by omega)
    obtain ⟨y5, e5⟩ := g 5 (by omega)
    obtain ⟨y6, e6⟩ := g 6 (by omega)
    obtain ⟨y7, e7⟩ := g 7 (by omega)
    obtain ⟨y8, e8⟩ := g 8 (by omega)
    rw [e0] at f0; rw [e1] at f1; rw [e2] at f2; rw [e3] at f3; rw [e4] at f4; rw [e5] at f5; rw [e6] at f6; rw [e7] at f7; rw [e8] at f8
    obtain ⟨a, b, h01, ha, hb⟩ := open_id f0
    obtain ⟨k2, h2, _, w2⟩ := DataW.trod_int Tryz.underlying3 f1
    obtain ⟨s3, h3, _, w3⟩ := DataW.trod_string Tryz.underlying9 f2
    obtain ⟨s4, h4, _, w4⟩ := DataW.trod_string Tryz.underlying9 f3
    obtain ⟨k5, h5, _, w5⟩ := DataW.trod_int Tryz.underlying2 f4
    obtain ⟨A, c, cells, L, h6, hrd, hlc, hcm, hE⟩ := open_each RdLg Tryz.underlying35 (size := 2) (by kernel_rfl) (by omega) (fun n cs x hx => open_leg hx) f5
    obtain ⟨k7, h7, _, w7⟩ := DataW.trod_int Tryz.underlying3 f6
    obtain ⟨k8, h8, _, w8⟩ := DataW.trod_int Tryz.underlying3 f7
    obtain ⟨s9, h9, _, w9⟩ := DataW.trod_string Tryz.underlying9 f8
    simp only [List.cons.injEq, and_true] at h01 h2 h3 h4 h5 h6 h7 h8 h9
    obtain ⟨h0, h1⟩ := h01
    subst h0 h1 h2 h3 h4 h5 h6 h7 h8 h9
    refine ⟨⟨a, b, k2, s3, s4, k5, L, k7, k8, s9⟩, .slice A L.length c, rfl, ⟨ha, hb, bounds_i64 w2, w3, w4, bounds_i64 w5, bounds_i64 w7, bounds_i64 w8, w9⟩, ?_, A, c, cells, rfl, hrd, hE, hlc, hcm⟩
    intro g hg
    obtain ⟨i, hi, rfl⟩ := List.getElem_of_mem hg
    exact (hE.2 i _ (List.getElem?_eq_getElem hi)).2
set_option maxRecDepth 100000 in
theorem open_odv {r : Reach} {b0 : Nat} {v : Value} {d : DataW H} {p : List MemPlace} (hv : Value.okWide Tryz.prog w r b0 37 v)
    (h : DataW.Trod enc Tryz.prog w 0 (fun _ => true) true 37 v d p) : ∃ (o : Od) (u : Value), v = o.val u ∧ OdI w o u := by
  obtain ⟨cs, rfl, hsz⟩ := okWide_struct Tryz.underlying37 hv
  obtain ⟨fuel, hf⟩ := h
  obtain ⟨o, u, ho, hk⟩ := open_od hf
  refine ⟨o, u, ?_, hk⟩
  obtain ⟨l⟩ := cs
  have ho' : l = o.cs u := by simpa [Value.cells] using ho
  subst ho'
  rfl
end
def Od.few (o : Od) : Od := { o with legs := o.legs.take 10 }
theorem Od.few_ok {o : Od} (h : o.ok) : o.few.ok := h
theorem LgS.take {w : World} {F : Nat → Prop} {A : Option Addr} {L : List Lg} {n c : Nat} (h : LgS w F (.slice A n c) L) (k : Nat) : LgS w F (.slice A (min n k) c) (L.take k) := by
  obtain ⟨A', c', cells, e, hr, hE, h1, h2⟩ := h
  cases e
  refine ⟨A, c, cells.take (min L.length k * 2), by rw [List.length_take, Nat.min_comm], ?_, ?_, by rw [List.length_take]; omega, h2⟩
  · have := hr.take (k := min L.length k) (by omega)
    rw [List.length_take, Nat.min_comm k]
    exact this
  · refine ⟨by rw [List.length_take, List.length_take, hE.1]; omega, fun i x hx => ?_⟩
    have hi : i < (L.take k).length := (List.getElem?_eq_some_iff.1 hx).1
    rw [List.length_take] at hi
    have hx' : L[i]? = some x := by rw [List.getElem?_take] at hx; split at hx <;> simp_all
    have := hE.2 i x hx'
    rw [List.drop_take, List.take_take, Nat.min_eq_left (by omega)]
    exact this
theorem LgS.form {w : World} {F : Nat → Prop} {v : Value} {L : List Lg} (h : LgS w F v L) : ∃ A c, v = .slice A L.length c ∧ L.length ≤ c ∧ c ≤ maxLen := by
  obtain ⟨A, c, cells, e, hr, hE, h1, h2⟩ := h
  exact ⟨A, c, e, h1, h2⟩
theorem LgS.below {w w' : World} {v : Value} {L : List Lg} {B : Nat} (h : LgS w (Lt B) v L) (hb : Below B w w') : LgS w' (Lt B) v L := by
  obtain ⟨A, c, cells, e, hr, hE, h1, h2⟩ := h
  exact ⟨A, c, cells, e, hr.below hb (fun _ h => h), hE, h1, h2⟩
end Go.Proofs.YtdooapnnohbjjaaGreat

namespace Go.Proofs.YtdooapnnohbjjaaGreat
open Go.RowKit Go.My Go.Maps
set_option linter.unusedSimpArgs false
set_option linter.unusedVariables false
attribute [local go_sem ↓] Go.wp_at_zero Go.wp_at_succ

theorem bytes_ext {a b : ByteArray} (h : a.data.toList = b.data.toList) : a = b := by
  obtain ⟨⟨x⟩⟩ := a
  obtain ⟨⟨y⟩⟩ := b
  simp only at h
  rw [h]
instance : DecidableEq Lg := fun a b =>
  if h : a.acct.data.toList = b.acct.data.toList ∧ a.sum = b.sum then isTrue (by cases a; cases b; simp only [Lg.mk.injEq]; exact ⟨bytes_ext h.1, h.2⟩) else isFalse fun e => h (by subst e; exact ⟨rfl, rfl⟩)
theorem neq_lg (a b : Lg) (W : World) (h : a ≠ b) : (binOp .neq 106 (.agg #[.string a.acct, .int .i64 a.sum]) (.agg #[.string b.acct, .int .i64 b.sum])).run Tryz.prog W = .ok (.bool true) W := by
  have key : a.acct.toList = b.acct.toList → ¬ a.sum = b.sum := fun h1 h2 => h (by
    cases a; cases b
    simp only [Lg.mk.injEq]
    rw [ByteArray.toList_eq, ByteArray.toList_eq] at h1
    exact ⟨bytes_ext h1, h2⟩)
  simp [go_sem]
  exact key
def EqRel (w : World) (L R : List Lg) (iv : Value) (wr : World) : Prop := ∃ k j : Nat, k ≤ L.length ∧ iv = .int .i64 k ∧ L.take k = R.take k ∧ wr = w.drewN j
/-- the same in every field -/
def eqO (o r : Od) : Bool := decide (o.cl = r.cl ∧ o.sq = r.sq) && (decide (o.kd = r.kd) && (decide (o.an = r.an) && (decide (o.pn = r.pn) && (decide (o.sum = r.sum) && (decide (o.legs = r.legs) && (decide (o.per = r.per) && (decide (o.hold = r.hold) && decide (o.note.data.toList = r.note.data.toList))))))))
theorem eqO_iff (o r : Od) : eqO o r = true ↔ o = r := by
  unfold eqO
  simp only [Bool.and_eq_true, decide_eq_true_eq]
  constructor
  · rintro ⟨⟨h1, h2⟩, h3, h4, h5, h6, h7, h8, h9, h10⟩
    obtain ⟨a, b, c, d, e, f, g, h, i, j⟩ := o
    obtain ⟨a', b', c', d', e', f', g', h', i', j'⟩ := r
    simp only [Od.an, Od.pn] at h1 h2 h3 h4 h5 h6 h7 h8 h9 h10
    rw [h1, h2, h3, bytes_ext h4, bytes_ext h5, h6, h7, h8, h9, bytes_ext h10]
  · rintro rfl
    simp
theorem eq_id (a b c d : Int) (W : World) (h : ¬ (a = c ∧ b = d)) : (binOp .eql 34 (.agg #[.int .i64 a, .int .i64 b]) (.agg #[.int .i64 c, .int .i64 d])).run Tryz.prog W = .ok (.bool false) W := by
  simp [go_sem]
  intro h1 h2
  exact h ⟨h1, h2⟩
end Go.Proofs.YtdooapnnohbjjaaGreat

namespace Go.Proofs.YtdooapnnohbjjaaGreat
open Go.RowKit Go.My Go.Maps
set_option linter.unusedSimpArgs false
set_option linter.unusedVariables false

/-- an order's cells; its legs lie in memory as they came in with the world w0 -/
def OdR (w0 : World) (cs : List Value) (o : Od) : Prop := ∃ v, cs = o.cs v ∧ o.ok ∧ (∀ g ∈ o.legs, g.ok) ∧ LgS w0 (Lt w0.heap.size) v o.legs
/-- orders in a slice -/
def OdsS (w0 w : World) (F : Nat → Prop) (A : Option Addr) (l : List Od) : Prop := ∃ cells, Rd w F 10 A l.length cells ∧ Each (OdR w0) 10 cells l
section
variable {w0 w w' : World} {F G : Nat → Prop} {A : Option Addr} {l : List Od}
theorem OdsS.fr {S : Nat → Prop} (h : OdsS w0 w F A l) (hf : Fr S w w') (hn : ∀ k, F k → k < w.heap.size → ¬ S k) : OdsS w0 w' F A l := by
  obtain ⟨cells, hr, hE⟩ := h
  exact ⟨cells, hr.fr (by omega) hf hn, hE⟩
theorem OdsS.more (h : OdsS w0 w F A l) (hB : ∀ k, F k → G k) : OdsS w0 w G A l := by
  obtain ⟨cells, hr, hE⟩ := h
  exact ⟨cells, hr.more hB, hE⟩
theorem OdsS.below {B : Nat} (h : OdsS w0 w F A l) (hb : Below B w w') (hF : ∀ k, F k → k < B) : OdsS w0 w' F A l := by
  obtain ⟨cells, hr, hE⟩ := h
  exact ⟨cells, hr.below hb hF, hE⟩
theorem OdsS.ok (h : OdsS w0 w F A l) : ∀ o ∈ l, o.ok := fun o ho => by
  obtain ⟨cells, hr, hE⟩ := h
  obtain ⟨i, hi, rfl⟩ := List.getElem_of_mem ho
  obtain ⟨v, _, h1, _⟩ := hE.2 i _ (List.getElem?_eq_getElem hi)
  exact h1
/-- the order at k -/
theorem OdsS.at_ (h : OdsS w0 w F A l) (k : Nat) (hk : k < l.length) :
    ∃ ad v, A = some ad ∧ F ad.block ∧ l[k].ok ∧ (∀ g ∈ l[k].legs, g.ok) ∧ LgS w0 (Lt w0.heap.size) v l[k].legs ∧ w.cell? (ad.add (k * 10)) = some (.int .i64 l[k].cl) ∧ w.cell? ⟨(ad.add (k * 10)).block, (ad.add (k * 10)).off + 1, none⟩ = some (.int .i64 l[k].sq) ∧
      w.cell? ⟨(ad.add (k * 10)).block, (ad.add (k * 10)).off + 2, none⟩ = some (.int .i64 l[k].kd) ∧ w.cell? ⟨(ad.add (k * 10)).block, (ad.add (k * 10)).off + 3, none⟩ = some (.string l[k].acct) ∧
      w.cell? ⟨(ad.add (k * 10)).block, (ad.add (k * 10)).off + 4, none⟩ = some (.string l[k].peer) ∧ w.cell? ⟨(ad.add (k * 10)).block, (ad.add (k * 10)).off + 5, none⟩ = some (.int .i64 l[k].sum) ∧
      w.cell? ⟨(ad.add (k * 10)).block, (ad.add (k * 10)).off + 6, none⟩ = some v ∧ w.cell? ⟨(ad.add (k * 10)).block, (ad.add (k * 10)).off + 7, none⟩ = some (.int .i64 l[k].per) ∧
      w.cell? ⟨(ad.add (k * 10)).block, (ad.add (k * 10)).off + 8, none⟩ = some (.int .i64 l[k].hold) ∧ w.cell? ⟨(ad.add (k * 10)).block, (ad.add (k * 10)).off + 9, none⟩ = some (.string l[k].note) := by
  obtain ⟨cells, hr, hE⟩ := h
  obtain ⟨ad, rfl, hF, hc⟩ := hr.2 (by omega)
  obtain ⟨v, hcs, hok, hg, hL⟩ := hE.2 k l[k] (List.getElem?_eq_getElem hk)
  have hget : ∀ i, i < 10 → cells[k * 10 + i]? = (l[k].cs v)[i]? := fun i hi => by
    rw [← hcs, List.getElem?_take, if_pos hi, List.getElem?_drop]
  refine ⟨ad, v, rfl, hF, hok, hg, hL, hc (k * 10) _ (by have := hget 0 (by omega); rw [Nat.add_zero] at this; rw [this]; rfl), ?_, ?_, ?_, ?_, ?_, ?_, ?_, ?_, ?_⟩
  · rw [← add_lits ad (k * 10) 1 (by omega)]
    exact hc _ _ (by rw [hget 1 (by omega)]; rfl)
  · rw [← add_lits ad (k * 10) 2 (by omega)]
    exact hc _ _ (by rw [hget 2 (by omega)]; rfl)
  · rw [← add_lits ad (k * 10) 3 (by omega)]
    exact hc _ _ (by rw [hget 3 (by omega)]; rfl)
  · rw [← add_lits ad (k * 10) 4 (by omega)]
    exact hc _ _ (by rw [hget 4 (by omega)]; rfl)
  · rw [← add_lits ad (k * 10) 5 (by omega)]
    exact hc _ _ (by rw [hget 5 (by omega)]; rfl)
  · rw [← add_lits ad (k * 10) 6 (by omega)]
    exact hc _ _ (by rw [hget 6 (by omega)]; rfl)
  · rw [← add_lits ad (k * 10) 7 (by omega)]
    exact hc _ _ (by rw [hget 7 (by omega)]; rfl)
  · rw [← add_lits ad (k * 10) 8 (by omega)]
    exact hc _ _ (by rw [hget 8 (by omega)]; rfl)
  · rw [← add_lits ad (k * 10) 9 (by omega)]
    exact hc _ _ (by rw [hget 9 (by omega)]; rfl)
/-- legs stay as they came in -/
theorem LgS.keep0 {v : Value} {L : List Lg} (h : LgS w0 (Lt w0.heap.size) v L) (hb : Below w0.heap.size w0 w) : LgS w (Lt w0.heap.size) v L := h.below hb
/-- a row of orders -/
theorem Each.nilO (w0 : World) : Each (OdR w0) 10 [] [] := ⟨rfl, fun i x hx => by simp at hx⟩
theorem Each.snocO {w0 : World} {cells cs : List Value} {l : List Od} (h : Each (OdR w0) 10 cells l) {o : Od} (hl : cs.length = 10) (ho : OdR w0 cs o) : Each (OdR w0) 10 (cells ++ cs) (l ++ [o]) := by
  refine ⟨by rw [List.length_append, hl, h.1, List.length_append]; simp; omega, fun i x hx => ?_⟩
  by_cases hi : i < l.length
  · rw [List.getElem?_append_left hi] at hx
    have h1 := h.2 i x hx
    have h2 : i * 10 + 10 ≤ cells.length := by rw [h.1]; omega
    rw [List.drop_append_of_le_length (by omega), List.take_append_of_le_length (by rw [List.length_drop]; omega)]
    exact h1
  · rw [List.getElem?_append_right (by omega)] at hx
    have hi0 : i - l.length = 0 := by
      rcases Nat.eq_zero_or_pos (i - l.length) with h0 | h0
      · exact h0
      · rw [List.getElem?_eq_none (by simp; omega)] at hx; cases hx
    rw [hi0] at hx
    simp only [List.getElem?_cons_zero, Option.some.injEq] at hx
    subst hx
    have : i = l.length := by omega
    subst this
    rw [← h.1, List.drop_left, List.take_of_length_le (by omega)]
    exact ho
end
theorem elO : El Tryz.prog 22 37 10 120 := ⟨Tryz.underlying22, by
  have h : (Tryz.prog.info? 37).map (fun i => (i.zero, i.size, i.bytes)) = some (some (.agg #[.int .i64 0, .int .i64 0, .int .i64 0, .string ⟨#[]⟩, .string ⟨#[]⟩, .int .i64 0, .slice none 0 0, .int .i64 0, .int .i64 0, .string ⟨#[]⟩]), 10, 120) := by kernel_rfl
  obtain ⟨i, hi, hz, hs, hb⟩ := info_parts h
  exact ⟨i, _, hi, hz, hs, hb, rfl⟩, by omega⟩
theorem elR : El Tryz.prog 39 31 4 32 := ⟨Tryz.underlying39, by
  have h : (Tryz.prog.info? 31).map (fun i => (i.zero, i.size, i.bytes)) = some (some (.agg #[.int .i64 0, .int .i64 0, .int .i64 0, .int .i64 0]), 4, 32) := by kernel_rfl
  obtain ⟨i, hi, hz, hs, hb⟩ := info_parts h
  exact ⟨i, _, hi, hz, hs, hb, rfl⟩, by omega⟩
/-- replies as cells -/
def rpC (r : Rp) : List Value := [.int .i64 r.err, .int .i64 r.hv, .int .i64 r.st, .int .i64 r.num]
def rps (l : List Rp) : List Value := l.flatMap rpC
theorem rps_append (l m : List Rp) : rps (l ++ m) = rps l ++ rps m := by unfold rps; rw [List.flatMap_append]
theorem rps_one (r : Rp) : rps [r] = rpC r := by simp [rps]
theorem rps_length (l : List Rp) : (rps l).length = l.length * 4 := by
  induction l with
  | nil => rfl
  | cons a r ih => show (rpC a ++ rps r).length = _; rw [List.length_append, ih, List.length_cons]; simp [rpC]; omega
theorem rps_get (l : List Rp) : ∀ (k i : Nat) (hk : k < l.length), i < 4 → (rps l)[k * 4 + i]? = (rpC l[k])[i]? := by
  induction l with
  | nil => intro k i hk; simp at hk
  | cons a r ih =>
    intro k i hk hi
    show (rpC a ++ rps r)[k * 4 + i]? = _
    have ha : (rpC a).length = 4 := rfl
    cases k with
    | zero =>
      rw [Nat.zero_mul, Nat.zero_add, List.getElem?_append_left (by omega)]
      rfl
    | succ k =>
      rw [List.getElem?_append_right (by omega)]
      have : (k + 1) * 4 + i - (rpC a).length = k * 4 + i := by omega
      rw [this, ih k i (by simpa using hk) hi]
      rfl
/-- a reply in memory -/
theorem rp_at {w : World} {F : Nat → Prop} {A : Option Addr} {S : List Rp} (h : Rd w F 4 A S.length (rps S)) (k : Nat) (hk : k < S.length) :
    ∃ ad, A = some ad ∧ F ad.block ∧ w.cell? (ad.add (k * 4)) = some (.int .i64 S[k].err) ∧ w.cell? ⟨(ad.add (k * 4)).block, (ad.add (k * 4)).off + 1, none⟩ = some (.int .i64 S[k].hv) ∧
      w.cell? ⟨(ad.add (k * 4)).block, (ad.add (k * 4)).off + 2, none⟩ = some (.int .i64 S[k].st) ∧ w.cell? ⟨(ad.add (k * 4)).block, (ad.add (k * 4)).off + 3, none⟩ = some (.int .i64 S[k].num) := by
  obtain ⟨ad, rfl, hF, hc⟩ := h.2 (by omega)
  refine ⟨ad, rfl, hF, hc (k * 4) _ (by have := rps_get S k 0 hk (by omega); rw [Nat.add_zero] at this; rw [this]; rfl), ?_, ?_, ?_⟩
  · rw [← add_lits ad (k * 4) 1 (by omega)]
    exact hc _ _ (by rw [rps_get S k 1 hk (by omega)]; rfl)
  · rw [← add_lits ad (k * 4) 2 (by omega)]
    exact hc _ _ (by rw [rps_get S k 2 hk (by omega)]; rfl)
  · rw [← add_lits ad (k * 4) 3 (by omega)]
    exact hc _ _ (by rw [rps_get S k 3 hk (by omega)]; rfl)
section
open Go.ChangeShapes Go.WideShapes
variable {H : Type} {enc : TypeId × Value → H} {w : World} {base : Nat} {spare : Nat → Bool} {held : Bool}
/-- orders that came in -/
theorem open_ods {fuel : Nat} {cs : List Value} {x : DataW H × List MemPlace} (h : DataW.trod enc Tryz.prog w base spare held fuel 22 cs = some x) :
    ∃ (A : Option Addr) (c : Nat) (l : List Od), cs = [.slice A l.length c] ∧ OdsS w w (Lt w.heap.size) A l ∧ l.length ≤ c ∧ c ≤ maxLen := by
  obtain ⟨A, c, cells, l, h1, h2, h3, h4, h5⟩ := open_each (OdR w) Tryz.underlying22 (size := 10) (by kernel_rfl) (by omega) (fun n cs x hx => by
    obtain ⟨o, v, h1, h2, h3, h4⟩ := open_od hx
    exact ⟨o, v, h1, h2, h3, h4⟩) h
  exact ⟨A, c, l, h1, ⟨cells, h2, h5⟩, h3, h4⟩
end
end Go.Proofs.YtdooapnnohbjjaaGreat

namespace Go.Proofs.YtdooapnnohbjjaaGreat
open Go.RowKit Go.My Go.Maps
set_option linter.unusedSimpArgs false
set_option linter.unusedVariables false

theorem getA_cons (a : Ac) (r : List Ac) (k : List UInt8) : getA (a :: r) k = if a.name = k then some a else getA r k := by
  unfold getA
  rw [List.find?_cons]
  by_cases h : a.name = k
  · rw [if_pos h]; simp [h]
  · rw [if_neg h, beq_eq_false_iff_ne.2 h]
theorem getA_above {S : List Ac} {k : List UInt8} (h : ∀ a ∈ S, bytesBefore k a.name = true) : getA S k = none := by
  cases hq : getA S k with
  | none => rfl
  | some a =>
    have := h a (getA_some hq).1
    rw [(getA_some hq).2, WideAt.bytes_irrefl] at this
    cases this
theorem rise_above {a : Ac} {r : List Ac} (h : Rise (a :: r)) : ∀ b ∈ r, bytesBefore a.name b.name = true := fun b hb => (List.pairwise_cons.1 h).1 b hb
theorem rise_ext : ∀ (S T : List Ac), Rise S → Rise T → (∀ k, getA S k = getA T k) → S = T
  | [], [], _, _, _ => rfl
  | [], b :: t, _, _, h => by have := h b.name; rw [getA_cons, if_pos rfl] at this; cases this
  | a :: r, [], _, _, h => by have := h a.name; rw [getA_cons, if_pos rfl] at this; cases this
  | a :: r, b :: t, hs, ht, h => by
    have hab : a.name = b.name := by
      rcases Decidable.em (a.name = b.name) with e | e
      · exact e
      · exfalso
        rcases WideAt.bytes_total a.name b.name e with g | g
        · have h1 := h a.name
          rw [getA_cons, if_pos rfl, getA_above (S := b :: t) (fun c hc => by
            rcases List.mem_cons.1 hc with rfl | hc
            · exact g
            · exact WideShapes.bytes_trans _ _ _ g (rise_above ht c hc))] at h1
          cases h1
        · have h1 := h b.name
          rw [getA_cons b, if_pos rfl, getA_above (S := a :: r) (fun c hc => by
            rcases List.mem_cons.1 hc with rfl | hc
            · exact g
            · exact WideShapes.bytes_trans _ _ _ g (rise_above hs c hc))] at h1
          cases h1
    have h0 := h a.name
    rw [getA_cons, if_pos rfl, getA_cons, if_pos hab.symm] at h0
    injection h0 with h0
    subst h0
    congr 1
    refine rise_ext r t (List.pairwise_cons.1 hs).2 (List.pairwise_cons.1 ht).2 fun k => ?_
    by_cases hk : a.name = k
    · subst hk
      rw [getA_above (rise_above hs), getA_above (rise_above ht)]
    · have h1 := h k
      rw [getA_cons, if_neg hk, getA_cons, if_neg hk] at h1
      exact h1

/-- what an account has behind all legs -/
theorem legs_get (S : List Ac) : ∀ (L : List Lg) (T : List Ac), (L.map Lg.nm).Nodup → (∀ g ∈ L, getA T g.nm = getA S g.nm) → (∀ g ∈ L, legE S g = 0) → ∀ k, getA (legsS T L) k = match L.find? (fun g => g.nm == k) with | some g => (getA S k).map (fun a => { a with hv := a.hv + g.sum }) | none => getA T k
  | [], T, _, _, _, k => rfl
  | g :: r, T, hd, hs, h0, k => by
    rw [List.map_cons, List.nodup_cons] at hd
    have h1 := leg_same g (hs g List.mem_cons_self)
    have hg0 := h0 g List.mem_cons_self
    have ih := legs_get S r (legS T g) hd.2 (fun b hb => by
      rw [leg_other T g _ (fun e => hd.1 (List.mem_map.2 ⟨b, hb, e⟩))]
      exact hs b (List.mem_cons_of_mem _ hb)) (fun b hb => h0 b (List.mem_cons_of_mem _ hb)) k
    have e : legsS T (g :: r) = legsS (legS T g) r := by
      show (if legE T g = 0 then _ else _) = _
      rw [if_pos (by rw [h1]; exact hg0)]
    rw [e, ih, List.find?_cons]
    by_cases hk : g.nm = k
    · have hn : r.find? (fun g => g.nm == k) = none := by
        rw [List.find?_eq_none]
        intro b hb hbk
        exact hd.1 (List.mem_map.2 ⟨b, hb, by rw [hk]; simpa using hbk⟩)
      rw [hn]
      simp only [hk, beq_self_eq_true]
      obtain ⟨a, ha, _, _, _, he⟩ := leg_some (S := T) (g := g) (by rw [h1]; exact hg0)
      have haS : getA S k = some a := by rw [← hk, ← hs g List.mem_cons_self]; exact ha
      rw [he, haS]
      have hnm : a.name = k := by rw [← hk]; exact (getA_some ha).2
      have := getA_put_same T { a with hv := a.hv + g.sum }
      simp only [hnm] at this ⊢
      rw [this]
      simp only [Option.map_some, hnm]
    · have : (g.nm == k) = false := beq_eq_false_iff_ne.2 hk
      rw [this]
      simp only
      cases r.find? (fun g => g.nm == k) with
      | some b => rfl
      | none => exact leg_other T g k (fun h => hk h.symm)

theorem find_perm {L R : List Lg} (hp : L.Perm R) (hd : (L.map Lg.nm).Nodup) (k : List UInt8) : L.find? (fun g => g.nm == k) = R.find? (fun g => g.nm == k) := by
  have hdR : (R.map Lg.nm).Nodup := (hp.map Lg.nm).nodup_iff.1 hd
  have uniq : ∀ (M : List Lg), (M.map Lg.nm).Nodup → ∀ a ∈ M, ∀ b ∈ M, a.nm = b.nm → a = b := by
    intro M hM a ha b hb hab
    have h1 := List.pairwise_map.1 hM
    induction M with
    | nil => cases ha
    | cons c t ih =>
      obtain ⟨g1, g2⟩ := List.pairwise_cons.1 h1
      rw [List.map_cons, List.nodup_cons] at hM
      rcases List.mem_cons.1 ha with ea | ha2 <;> rcases List.mem_cons.1 hb with eb | hb2
      · rw [ea, eb]
      · exact absurd (by rw [← ea]; exact hab) (g1 b hb2)
      · exact absurd (by rw [← eb]; exact hab.symm) (g1 a ha2)
      · exact ih hM.2 ha2 hb2 g2
  cases hl : L.find? (fun g => g.nm == k) with
  | none =>
    symm
    rw [List.find?_eq_none] at hl ⊢
    exact fun x hx => hl x (hp.mem_iff.2 hx)
  | some a =>
    have ha := List.mem_of_find?_eq_some hl
    have hak : a.nm = k := by simpa using List.find?_some hl
    cases hr : R.find? (fun g => g.nm == k) with
    | none =>
      rw [List.find?_eq_none] at hr
      exact absurd (by simpa using hak) (hr a (hp.mem_iff.1 ha))
    | some b =>
      have hb := List.mem_of_find?_eq_some hr
      have hbk : b.nm = k := by simpa using List.find?_some hr
      rw [uniq L hd a ha b (hp.mem_iff.2 hb) (by rw [hak, hbk])]
theorem total_perm {l r : List Int} (h : l.Perm r) : total l = total r := by
  induction h with
  | nil => rfl
  | cons x _ ih => rw [total_cons, total_cons, ih]
  | swap x y l => simp only [total_cons]; omega
  | trans _ _ h1 h2 => rw [h1, h2]
theorem right_perm {L R : List Lg} (hp : L.Perm R) : rightB L = rightB R := by
  unfold rightB
  have h1 := hp.length_eq
  have h2 : L.all (fun g => nameB g.nm && decide (g.sum ≠ 0)) = R.all (fun g => nameB g.nm && decide (g.sum ≠ 0)) := by
    rw [Bool.eq_iff_iff, List.all_eq_true, List.all_eq_true]
    exact ⟨fun h x hx => h x (hp.mem_iff.2 hx), fun h x hx => h x (hp.mem_iff.1 hx)⟩
  have h3 : decide ((L.map Lg.nm).Nodup) = decide ((R.map Lg.nm).Nodup) := decide_eq_decide.2 (hp.map Lg.nm).nodup_iff
  rw [h1, h2, h3]
theorem make_perm {S : List Ac} (hI : Inv S) {L R : List Lg} (hp : L.Perm R) : (checkE S L = 0 ↔ checkE S R = 0) ∧ makeS S L = makeS S R := by
  have hr := right_perm hp
  have ht : total (sums L) = total (sums R) := total_perm (hp.map Lg.sum)
  have key : ∀ M : List Lg, checkE S M = 0 ↔ rightB M = true ∧ total (sums M) = 0 ∧ ∀ g ∈ M, legE S g = 0 := by
    intro M
    unfold checkE
    cases hb : rightB M with
    | false => simp
    | true =>
      have hd : (M.map Lg.nm).Nodup := by
        unfold rightB at hb
        simp only [Bool.and_eq_true, decide_eq_true_eq] at hb
        exact hb.2
      by_cases h0 : total (sums M) = 0
      · simp only [h0, Bool.true_eq_false, if_false, if_true, true_and]
        exact legs_each S M S hd (fun _ _ => rfl)
      · simp [h0]
  have hiff : checkE S L = 0 ↔ checkE S R = 0 := by
    rw [key L, key R, hr, ht]
    exact ⟨fun h => ⟨h.1, h.2.1, fun g hg => h.2.2 g (hp.mem_iff.2 hg)⟩, fun h => ⟨h.1, h.2.1, fun g hg => h.2.2 g (hp.mem_iff.1 hg)⟩⟩
  refine ⟨hiff, ?_⟩
  unfold makeS
  by_cases h0 : checkE S L = 0
  · rw [if_pos h0, if_pos (hiff.1 h0)]
    have hL := (key L).1 h0
    have hR := (key R).1 (hiff.1 h0)
    have nd : ∀ M : List Lg, rightB M = true → (M.map Lg.nm).Nodup := fun M hb => by
      unfold rightB at hb
      simp only [Bool.and_eq_true, decide_eq_true_eq] at hb
      exact hb.2
    refine rise_ext _ _ (inv_legs hI L).rise (inv_legs hI R).rise fun k => ?_
    rw [legs_get S L S (nd L hL.1) (fun _ _ => rfl) hL.2.2 k, legs_get S R S (nd R hR.1) (fun _ _ => rfl) hR.2.2 k, find_perm hp (nd L hL.1) k]
  · rw [if_neg h0, if_neg (fun h => h0 (hiff.2 h))]
end Go.Proofs.YtdooapnnohbjjaaGreat

namespace Go.Proofs.YtdooapnnohbjjaaGreat
open Go.RowKit Go.My Go.Maps
set_option linter.unusedSimpArgs false
set_option linter.unusedVariables false

theorem elL : El Tryz.prog 35 106 2 24 := ⟨Tryz.underlying35, by
  have h : (Tryz.prog.info? 106).map (fun i => (i.zero, i.size, i.bytes)) = some (some (.agg #[.string ⟨#[]⟩, .int .i64 0]), 2, 24) := by kernel_rfl
  obtain ⟨i, hi, hz, hs, hb⟩ := info_parts h
  exact ⟨i, _, hi, hz, hs, hb, rfl⟩, by omega⟩
/-- a leg's cells -/
def lgC (g : Lg) : List Value := [.string g.acct, .int .i64 g.sum]
def lgs (L : List Lg) : List Value := L.flatMap lgC
theorem lgs_length (L : List Lg) : (lgs L).length = L.length * 2 := by
  induction L with
  | nil => rfl
  | cons g r ih => show (lgC g ++ lgs r).length = _; rw [List.length_append, ih]; simp [lgC]; omega
theorem lgs_append (L R : List Lg) : lgs (L ++ R) = lgs L ++ lgs R := by unfold lgs; rw [List.flatMap_append]
theorem lgs_ones (L : List Lg) : ∀ y ∈ lgs L, y.oneCell' = true := by
  intro y hy
  unfold lgs at hy
  rw [List.mem_flatMap] at hy
  obtain ⟨a, _, ha⟩ := hy
  simp only [lgC, List.mem_cons, List.not_mem_nil, or_false] at ha
  rcases ha with rfl | rfl <;> rfl
theorem lgs_each : ∀ L : List Lg, (∀ g ∈ L, g.ok) → Each RdLg 2 (lgs L) L
  | [], _ => ⟨rfl, fun i x hx => by simp at hx⟩
  | g :: r, h => by
    obtain ⟨h1, h2⟩ := lgs_each r fun x hx => h x (List.mem_cons_of_mem _ hx)
    refine ⟨lgs_length _, fun i x hx => ?_⟩
    cases i with
    | zero =>
      simp only [List.getElem?_cons_zero, Option.some.injEq] at hx
      subst hx
      exact ⟨rfl, h g List.mem_cons_self⟩
    | succ i =>
      rw [List.getElem?_cons_succ] at hx
      have := h2 i x hx
      show RdLg (((lgC g ++ lgs r).drop ((i + 1) * 2)).take 2) x
      rw [List.drop_append, List.drop_of_length_le (by simp [lgC]; omega)]
      simpa [lgC, show (i + 1) * 2 - 2 = i * 2 by omega] using this
/-- cells of legs are these -/
theorem each_lgs : ∀ (L : List Lg) (cells : List Value), Each RdLg 2 cells L → cells = lgs L
  | [], cells, h => by
    have := h.1
    simp at this
    rw [this]
    rfl
  | g :: r, cells, h => by
    have h0 := (h.2 0 g rfl).1
    rw [Nat.zero_mul, List.drop_zero] at h0
    have hr := each_lgs r (cells.drop 2) ⟨by rw [List.length_drop, h.1, List.length_cons]; omega, fun i x hx => by
      have := h.2 (i + 1) x (by rw [List.getElem?_cons_succ]; exact hx)
      rw [List.drop_drop]
      rwa [show 2 + i * 2 = (i + 1) * 2 by omega]⟩
    show cells = lgC g ++ lgs r
    have e := List.take_append_drop 2 cells
    rw [h0, hr] at e
    exact e.symm

end Go.Proofs.YtdooapnnohbjjaaGreat

namespace Go.Proofs.YtdooapnnohbjjaaGreat
open Go.RowKit Go.My Go.Maps
set_option linter.unusedSimpArgs false
set_option linter.unusedVariables false

theorem few_legs {w : World} {B : Option Addr} {d : Nat} {cells2 : List Value} {L0 : List Lg} (hr2 : Rd w (Lt w.heap.size) 2 B L0.length cells2) (hd : L0.length ≤ d) (hE2 : Each RdLg 2 cells2 L0) :
    ∃ L : List Lg, L.length = min L0.length 8 ∧ L.length ≤ 8 ∧ L.length ≤ d ∧ Rd w (Lt w.heap.size) 2 B L.length (lgs L) ∧ Each RdLg 2 (lgs L) L ∧ (∀ g ∈ L, g.ok) := by
  have ho : ∀ g ∈ L0.take 8, g.ok := fun g hg => each_ok hE2 g (List.mem_of_mem_take hg)
  refine ⟨L0.take 8, by rw [List.length_take]; omega, by rw [List.length_take]; omega, by rw [List.length_take]; omega, ?_, lgs_each _ ho, ho⟩
  have h1 := hr2.take (k := (L0.take 8).length) (by rw [List.length_take]; omega)
  have h2 : cells2.take ((L0.take 8).length * 2) = lgs (L0.take 8) := by
    rw [each_lgs L0 cells2 hE2]
    have e : lgs L0 = lgs (L0.take 8) ++ lgs (L0.drop 8) := by rw [← lgs_append, List.take_append_drop]
    rw [e]
    exact List.take_left' (lgs_length _)
  rwa [h2] at h1
end Go.Proofs.YtdooapnnohbjjaaGreat

namespace Go.Proofs.YtdooapnnohbjjaaGreat
open Go.RowKit Go.My Go.Maps
set_option linter.unusedSimpArgs false
set_option linter.unusedVariables false

theorem total_set : ∀ (S : List Ac) (k : Nat) (hk : k < S.length) (b : Ac), total (hvs (S.set k b)) = total (hvs S) - S[k].hv + b.hv
  | c :: r, 0, _, b => by
    show total (b.hv :: hvs r) = total (c.hv :: hvs r) - c.hv + b.hv
    rw [total_cons, total_cons]; omega
  | c :: r, k + 1, hk, b => by
    have ih := total_set r k (by simpa using hk) b
    have hk' : k < r.length := by simpa using hk
    show total (c.hv :: hvs (r.set k b)) = total (c.hv :: hvs r) - r[k].hv + b.hv
    rw [total_cons, total_cons, ih]; omega
theorem total_put {S : List Ac} (hr : Rise S) {a b : Ac} {nm : List UInt8} (hg : getA S nm = some a) (hb : b.name = a.name) : total (hvs (putA b S)) = total (hvs S) - a.hv + b.hv := by
  obtain ⟨k, hk, rfl⟩ := List.getElem_of_mem (getA_some hg).1
  rw [put_set S k hk b hr hb.symm, total_set S k hk b]
theorem legs_total : ∀ (L : List Lg) {T : List Ac}, Inv T → legsE T L = 0 → total (hvs (legsS T L)) = total (hvs T) + total (sums L)
  | [], T, _, _ => by simp [legsS, sums, total_nil]
  | g :: r, T, hI, h => by
    unfold legsE at h
    by_cases h0 : legE T g = 0
    · rw [if_pos h0] at h
      have ih := legs_total r (inv_leg hI g) h
      obtain ⟨a, ha, _, _, _, he⟩ := leg_some h0
      have e : legsS T (g :: r) = legsS (legS T g) r := by
        show (if legE T g = 0 then _ else _) = _
        rw [if_pos h0]
      rw [e, ih, he, total_put (b := { a with hv := a.hv + g.sum }) hI.rise ha rfl]
      show _ = _ + total (g.sum :: sums r)
      rw [total_cons]
      simp only
      omega
    · rw [if_neg h0] at h
      exact absurd h h0

/-- what legs add to an account -/
def byOf (L : List Lg) (nm : List UInt8) : Int := total (L.map fun g => if g.nm = nm then g.sum else 0)
theorem byOf_take {L : List Lg} {k : Nat} (hk : k < L.length) (nm : List UInt8) : byOf (L.take (k + 1)) nm = byOf (L.take k) nm + if L[k].nm = nm then L[k].sum else 0 := by
  unfold byOf
  rw [List.take_succ_eq_append_getElem hk, List.map_append, total_append]
  simp [total_cons, total_nil]
theorem byOf_none : ∀ (L : List Lg) (nm : List UInt8), (∀ g ∈ L, g.nm ≠ nm) → byOf L nm = 0
  | [], _, _ => rfl
  | g :: r, nm, h => by
    have ih := byOf_none r nm fun x hx => h x (List.mem_cons_of_mem _ hx)
    unfold byOf at ih ⊢
    rw [List.map_cons, total_cons, ih, if_neg (h g List.mem_cons_self)]
    rfl
theorem byOf_find : ∀ (L : List Lg) (nm : List UInt8), (L.map Lg.nm).Nodup → byOf L nm = match L.find? (fun g => g.nm == nm) with | some g => g.sum | none => 0
  | [], _, _ => rfl
  | g :: r, nm, hd => by
    rw [List.map_cons, List.nodup_cons] at hd
    rw [List.find?_cons]
    by_cases h : g.nm = nm
    · have h0 := byOf_none r nm fun x hx e => hd.1 (List.mem_map.2 ⟨x, hx, by rw [e, h]⟩)
      unfold byOf at h0 ⊢
      rw [List.map_cons, total_cons, h0, if_pos h, Int.add_zero]
      simp [h]
    · have ih := byOf_find r nm hd.2
      rw [beq_eq_false_iff_ne.2 h]
      simp only
      rw [← ih]
      unfold byOf
      rw [List.map_cons, total_cons, if_neg h, Int.zero_add]
/-- an account behind the legs -/
def updA (L : List Lg) (a : Ac) : Ac := { a with hv := a.hv + byOf L a.name }
theorem getA_map (f : Ac → Ac) (hf : ∀ a, (f a).name = a.name) : ∀ (S : List Ac) (k : List UInt8), getA (S.map f) k = (getA S k).map f
  | [], _ => rfl
  | a :: r, k => by
    rw [List.map_cons, getA_cons, getA_cons, hf, getA_map f hf r k]
    split <;> rfl
theorem rise_map (f : Ac → Ac) (hf : ∀ a, (f a).name = a.name) {S : List Ac} (h : Rise S) : Rise (S.map f) :=
  List.pairwise_map.2 (h.imp fun {a b} hab => by unfold Ac.key at hab ⊢; rw [hf, hf]; exact hab)
theorem right_nodup {L : List Lg} (h : rightB L = true) : (L.map Lg.nm).Nodup := by
  unfold rightB at h
  simp only [Bool.and_eq_true, decide_eq_true_eq] at h
  exact h.2
theorem check_zero {S : List Ac} {L : List Lg} (h : checkE S L = 0) : rightB L = true ∧ total (sums L) = 0 ∧ legsE S L = 0 := by
  unfold checkE at h
  cases hb : rightB L with
  | false => rw [hb] at h; simp at h
  | true =>
    rw [hb] at h
    simp only [Bool.true_eq_false, if_false] at h
    split at h
    · rename_i h0; exact ⟨rfl, h0, h⟩
    · cases h
theorem legs_map {S : List Ac} (hI : Inv S) {L : List Lg} (hd : (L.map Lg.nm).Nodup) (h : legsE S L = 0) : legsS S L = S.map (updA L) := by
  have h2 := (legs_each S L S hd (fun _ _ => rfl)).1 h
  refine rise_ext _ _ (inv_legs hI L).rise (rise_map (updA L) (fun _ => rfl) hI.rise) fun k => ?_
  rw [legs_get S L S hd (fun _ _ => rfl) h2 k, getA_map (updA L) (fun _ => rfl)]
  have hb := byOf_find L k hd
  cases hf : L.find? (fun g => g.nm == k) with
  | some g =>
    rw [hf] at hb
    simp only at hb ⊢
    cases hq : getA S k with
    | none => rfl
    | some a =>
      have hn := (getA_some hq).2
      simp only [Option.map_some, updA, hn, hb]
  | none =>
    rw [hf] at hb
    simp only at hb ⊢
    cases hq : getA S k with
    | none => rfl
    | some a =>
      have hn := (getA_some hq).2
      simp only [Option.map_some, updA, hn, hb, Int.add_zero]
      rw [← hn]
theorem make_weighs {S : List Ac} (hI : Inv S) {L : List Lg} (h : checkE S L = 0) : makeS S L = S.map (updA L) ∧ total (hvs (makeS S L)) = total (hvs S) := by
  obtain ⟨h1, h2, h3⟩ := check_zero h
  unfold makeS
  rw [if_pos h]
  exact ⟨legs_map hI (right_nodup h1) h3, by rw [legs_total L hI h3, h2, Int.add_zero]⟩
theorem make_err {S : List Ac} {L : List Lg} (h : checkE S L ≠ 0) : makeS S L = S := by
  unfold makeS
  rw [if_neg h]
theorem two_inj {a b c d : Int} (h : #[Value.int .i64 a, Value.int .i64 b] = #[Value.int .i64 c, Value.int .i64 d]) : a = c ∧ b = d := by
  injection h with h
  injection h with h1 h2
  injection h2 with h2
  injection h1 with _ h1
  injection h2 with _ h2
  exact ⟨h1, h2⟩
end Go.Proofs.YtdooapnnohbjjaaGreat

namespace Go.Proofs.YtdooapnnohbjjaaGreat
open Go.RowKit Go.My Go.Maps
set_option linter.unusedSimpArgs false
set_option linter.unusedVariables false
attribute [local go_sem ↓] Go.wp_at_zero Go.wp_at_succ

theorem nodup_snoc {L : List Lg} {i : Nat} (hi : i < L.length) (h : ((L.take i).map Lg.nm).Nodup) (hn : ∀ x ∈ L.take i, x.nm ≠ L[i].nm) : ((L.take (i + 1)).map Lg.nm).Nodup := by
  rw [List.take_succ_eq_append_getElem hi, List.map_append, List.nodup_append]
  refine ⟨h, by simp, fun a ha b hb => ?_⟩
  obtain ⟨x, hx, rfl⟩ := List.mem_map.1 ha
  simp only [List.map_cons, List.map_nil, List.mem_singleton] at hb
  rw [hb]
  exact hn x hx
theorem not_nodup {L : List Lg} {i k : Nat} (hi : i < L.length) (hk : k < i) (h : L[k].nm = L[i].nm) : rightB L = false := by
  cases hb : rightB L with
  | false => rfl
  | true =>
    have h1 := right_nodup hb
    have h2 := List.pairwise_iff_getElem.1 h1 k i (by simp; omega) (by simpa using hi) hk
    simp [h] at h2
theorem right_end {L : List Lg} (h1 : L.all okLg = true) (h2 : (L.map Lg.nm).Nodup) : rightB L = (decide (2 ≤ L.length) && decide (L.length ≤ 6)) := by
  unfold rightB
  have e : L.all (fun g => nameB g.nm && decide (g.sum ≠ 0)) = true := h1
  rw [e, decide_eq_true h2]
  simp

def RrRel (w : World) (L : List Lg) (iv : Value) (wr : World) : Prop := ∃ i j : Nat, i ≤ L.length ∧ iv = .int .i64 i ∧ (L.take i).all okLg = true ∧ ((L.take i).map Lg.nm).Nodup ∧ wr = w.drewN j
def RkRel (w : World) (L : List Lg) (i : Nat) (nm : List UInt8) (kv : Value) (wr : World) : Prop := ∃ k j : Nat, k ≤ i ∧ kv = .int .i64 k ∧ (∀ x ∈ L.take k, x.nm ≠ nm) ∧ wr = w.drewN j

set_option maxRecDepth 100000 in
set_option maxHeartbeats 2000000 in
theorem refright_any (F : Nat → Prop) (A : Option Addr) (c : Nat) (cells : List Value) (L : List Lg) (w : World) (hr : Rd w F 2 A L.length cells) (hE : Each RdLg 2 cells L) (hL : L.length ≤ 100) :
    Calls Tryz.prog 86 #[.slice A L.length c] w fun e w' => e = .returned (.bool (rightB L)) ∧ Fr No w w' := by
  have HR := Lib.hid hr
  have HE := Lib.hid hE
  clear hr hE
  go_enter Tryz.func86, Tryz.ntmps86
  go_wp2_with fail
  go_loopw [3] (fun iv wr => RrRel w L iv wr) (fun iv _ => L.length - (intOf iv).toNat)
  case atStart => exact ⟨0, 0, Nat.zero_le _, rfl, rfl, List.nodup_nil, rfl⟩
  case round =>
    obtain ⟨i, j0, hi, rfl, hall, hnd, rfl⟩ := hrel
    have HALL := Lib.hid hall
    have HND := Lib.hid hnd
    clear hall hnd
    by_cases hil : i < L.length
    · obtain ⟨ad, rfl, _, hok, q0, q1⟩ := lg_at HR.out HE.out i hil hil
      have HBAD : Hid (okLg L[i] = false → rightB L = false) := rightB_bad hil
      have HNX : Hid (okLg L[i] = true → (L.take (i + 1)).all okLg = true) := fun h => by
        rw [List.take_succ_eq_append_getElem hil, List.all_append, HALL.out]
        simp [h]
      have HSN : Hid ((∀ x ∈ L.take i, x.nm ≠ L[i].nm) → ((L.take (i + 1)).map Lg.nm).Nodup) := nodup_snoc hil HND.out
      have HNN : Hid (∀ k (hk : k < i), L[k].nm = L[i].nm → rightB L = false) := fun k hk h => not_nodup hil hk h
      generalize hg : L[i] = g at *
      obtain ⟨nm, sm⟩ := g
      unfold Lg.ok at hok
      simp only at q0 q1 hok
      obtain ⟨lo, hlo, hlo2⟩ : ∃ lo : List UInt8, nm = ⟨lo.toArray⟩ ∧ nm.data.toList = lo := ⟨nm.data.toList, by simp, rfl⟩
      have hN := refname_any nm (w.drewN j0) hok.1
      unfold Lg.nm at HSN HNN
      unfold okLg Lg.nm at HBAD HNX
      simp only at HSN HNN HBAD HNX
      rw [hlo2] at hN HSN HNN HBAD HNX
      subst hlo
      have HN := Lib.hid hN
      clear hN hok hlo2 hg
      cases hnb : nameB lo with
      | false =>
        rw [hnb] at HN HBAD
        have HB : Hid (rightB L = false) := HBAD.out rfl
        clear hnb
        go_wp2_with fail
        refine HN.out.mono ?_
        rintro e w3 ⟨rfl, rfl⟩
        go_wp2
        go_ret
        exact ⟨by rw [HB.out]; rfl, (Fr.refl _ _).drewN _⟩
      | true =>
        rw [hnb] at HN HBAD HNX
        clear hnb
        by_cases hs0 : sm = 0
        · subst hs0
          have HB : Hid (rightB L = false) := HBAD.out rfl
          go_wp2_with fail
          refine HN.out.mono ?_
          rintro e w3 ⟨rfl, rfl⟩
          go_wp2
          go_ret
          exact ⟨by rw [HB.out]; rfl, (Fr.refl _ _).drewN _⟩
        · have hz : (sm == 0) = false := beq_eq_false_iff_ne.2 hs0
          have HA : Hid ((L.take (i + 1)).all okLg = true) := HNX.out (by simp [hs0])
          clear hs0 HBAD HNX
          go_wp2_with fail
          refine HN.out.mono ?_
          rintro e w3 ⟨rfl, rfl⟩
          go_wp2_with fail
          go_loopw [4] (fun kv ws => RkRel w L i lo kv ws) (fun kv _ => i - (intOf kv).toNat)
          case atStart => exact ⟨0, j0, Nat.zero_le _, rfl, fun x hx => by simp at hx, rfl⟩
          case round =>
            obtain ⟨k, j1, hk, rfl, hno, rfl⟩ := hrel
            by_cases hki : k < i
            · obtain ⟨bd, hbd, _, hok2, p0, p1⟩ := lg_at HR.out HE.out k (by omega) (by omega)
              injection hbd with hbd
              subst hbd
              have HTK : Hid (L.take (k + 1) = L.take k ++ [L[k]]) := List.take_succ_eq_append_getElem (by omega)
              have HNK := Lib.hid (HNN.out k hki)
              have HNO := Lib.hid hno
              generalize L[k] = h at *
              obtain ⟨nk, sk⟩ := h
              simp only at p0 p1
              obtain ⟨lk, hlk, hlk2⟩ : ∃ lo : List UInt8, nk = ⟨lo.toArray⟩ ∧ nk.data.toList = lo := ⟨nk.data.toList, by simp, rfl⟩
              simp only [hlk2] at HNK
              subst hlk
              clear hno hok2 hlk2 HN HNN
              by_cases hn : lk = lo
              · subst hn
                have HB : Hid (rightB L = false) := HNK.out rfl
                go_wp2
                go_quiet (fail)
                go_wp2
                go_ret
                exact ⟨by rw [HB.out]; rfl, ((Fr.refl _ _).drewN _).drewN _⟩
              · have hz1 : (lk == lo) = false := beq_eq_false_iff_ne.2 hn
                have hz2 : ((⟨lk.toArray⟩ : ByteArray).toList == (⟨lo.toArray⟩ : ByteArray).toList) = false := by rw [ByteArray.toList_eq, ByteArray.toList_eq]; exact hz1
                have HNE := Lib.hid hn
                clear hn
                go_wp2
                go_quiet (fail)
                go_wp2
                go_roundw
                case rel =>
                  refine ⟨k + 1, _, by omega, by go_num, fun x hx => ?_, rfl⟩
                  rw [HTK.out, List.mem_append, List.mem_singleton] at hx
                  rcases hx with hx | hx
                  · exact HNO.out x hx
                  · rw [hx]; exact HNE.out
                case measure => simp [intOf]; omega
            · obtain rfl : k = i := by omega
              have HD : Hid (((L.take (k + 1)).map Lg.nm).Nodup) := HSN.out hno
              clear hno
              go_wp2
              go_roundw
              case rel => exact ⟨k + 1, _, by omega, by go_num, HA.out, HD.out, rfl⟩
              case measure => simp [intOf]; omega
    · obtain rfl : i = L.length := by omega
      have HEN : Hid (rightB L = (decide (2 ≤ L.length) && decide (L.length ≤ 6))) := by
        have h1 := HALL.out
        have h2 := HND.out
        rw [List.take_length] at h1 h2
        exact right_end h1 h2
      by_cases h2 : 2 ≤ L.length
      · have h2' : ¬ (L.length : Int) < 2 := by omega
        by_cases h6 : L.length ≤ 6
        · have h6' : decide ((L.length : Int) ≤ 6) = true := decide_eq_true (by omega)
          have HB : Hid (rightB L = true) := by show _ = _; rw [HEN.out, decide_eq_true h2, decide_eq_true h6]; rfl
          go_wp2
          go_ret
          exact ⟨by rw [HB.out]; rfl, (Fr.refl _ _).drewN _⟩
        · have h6' : decide ((L.length : Int) ≤ 6) = false := decide_eq_false (by omega)
          have HB : Hid (rightB L = false) := by show _ = _; rw [HEN.out, decide_eq_false h6]; simp
          go_wp2
          go_ret
          exact ⟨by rw [HB.out]; rfl, (Fr.refl _ _).drewN _⟩
      · have h2' : (L.length : Int) < 2 := by omega
        have HB : Hid (rightB L = false) := by show _ = _; rw [HEN.out, decide_eq_false h2]; rfl
        go_wp2
        go_ret
        exact ⟨by rw [HB.out]; rfl, (Fr.refl _ _).drewN _⟩
end Go.Proofs.YtdooapnnohbjjaaGreat

namespace Go.Proofs.YtdooapnnohbjjaaGreat
open Go.RowKit Go.My Go.Maps
set_option linter.unusedSimpArgs false
set_option linter.unusedVariables false
attribute [local go_sem ↓] Go.wp_at_zero Go.wp_at_succ

theorem first_at (S : List Ac) : ∀ (L : List Lg) (i : Nat) (hi : i < L.length), (L.map Lg.nm).Nodup → (∀ g ∈ L.take i, legE S g = 0) → legE S L[i] ≠ 0 → legsE S L = legE S L[i] := by
  intro L i hi hd h0 hne
  rw [legs_first S L S hd (fun _ _ => rfl)]
  have hsp : L = L.take i ++ L[i] :: L.drop (i + 1) := by simp
  have hf : L.find? (fun g => decide (legE S g ≠ 0)) = some L[i] := by
    rw [List.find?_eq_some_iff_append]
    exact ⟨by simp [hne], L.take i, L.drop (i + 1), hsp, fun a ha => by simp [h0 a ha]⟩
  rw [hf]
  rfl
theorem all_zero (S : List Ac) {L : List Lg} (hd : (L.map Lg.nm).Nodup) (h0 : ∀ g ∈ L, legE S g = 0) : legsE S L = 0 := (legs_each S L S hd (fun _ _ => rfl)).2 h0
theorem take_zero_next {S : List Ac} {L : List Lg} {i : Nat} (hi : i < L.length) (h : ∀ g ∈ L.take i, legE S g = 0) (h0 : legE S L[i] = 0) : ∀ g ∈ L.take (i + 1), legE S g = 0 := fun g hg => by
  rw [List.take_succ_eq_append_getElem hi, List.mem_append, List.mem_singleton] at hg
  rcases hg with hg | rfl
  · exact h g hg
  · exact h0
theorem legE_none {S : List Ac} {g : Lg} (h : getA S g.nm = none) : legE S g = 6 := by unfold legE; rw [h]; rfl
theorem legE_some {S : List Ac} {g : Lg} {a : Ac} (h : getA S g.nm = some a) : legE S g = if g.sum = -9223372036854775808 then 2 else giveE a (-g.sum) := by
  unfold legE actE
  rw [h]
  rfl
def CkRel (w : World) (S : List Ac) (L : List Lg) (iv : Value) (wr : World) : Prop := ∃ i : Nat, i ≤ L.length ∧ iv = .int .i64 i ∧ (∀ g ∈ L.take i, legE S g = 0) ∧ Fr No w wr

set_option maxRecDepth 100000 in
set_option maxHeartbeats 4000000 in
theorem refcheck_any (q : Nat) (S : List Ac) (F : Nat → Prop) (A : Option Addr) (c : Nat) (cells : List Value) (L : List Lg) (w : World) (h : RfS w q S) (hI : Inv S) (hr : Rd w F 2 A L.length cells) (hE : Each RdLg 2 cells L) (hL : L.length ≤ 100) :
    Calls Tryz.prog 52 #[.pointer (some ⟨q, 0, none⟩), .slice A L.length c] w fun e w' => e = .returned (.int .i64 (checkE S L)) ∧ Fr No w w' := by
  have HR := Lib.hid hr
  have HE := Lib.hid hE
  have HH := Lib.hid h
  have HI := Lib.hid hI
  have HRT := Lib.hid (refright_any F A c cells L w hr hE hL)
  have HNB : Hid (∀ (W : World) cs, (W.alloc (.cells cs 2)).heap[W.heap.size]? = some (.cells cs 2 (0, 0))) := fun W cs => heap_alloc_new W _
  clear hr hE h hI
  go_enter Tryz.func52, Tryz.ntmps52
  go_wp2_with fail
  refine HRT.out.mono ?_
  rintro e w1 ⟨rfl, hf1⟩
  have HF1 := Lib.hid hf1
  clear hf1
  cases hrb : rightB L with
  | false =>
    have HN : Hid (checkE S L = 1) := by show _ = _; unfold checkE; rw [if_pos hrb]
    clear hrb
    go_wp2
    go_ret
    exact ⟨by rw [HN.out]; rfl, HF1.out⟩
  | true =>
    have HRB := Lib.hid hrb
    clear hrb
    go_wp2_with fail
    go_loopw [5, 6] (fun lv iv wr => BalRel w L lv iv wr) (fun _ iv _ => L.length - (intOf iv).toNat)
    case atStart => exact ⟨0, Nat.zero_le _, rfl, Own.nil _ _ _, HF1.out, .inl rfl⟩
    case round =>
      obtain ⟨k, hk, rfl, hown, hfr, hnew⟩ := hrel
      by_cases hlt : k < L.length
      · obtain ⟨ad, rfl, _, _, q0, q1⟩ := lg_at (HR.out.fr (by omega) hfr fun _ _ _ h => h) HE.out k hlt hlt
        have E : Hid (is_ (sums (L.take (k + 1))) = is_ (sums (L.take k)) ++ [.int .i64 L[k].sum]) := by
          show _ = _
          rw [sums_take hlt, is_append]
          rfl
        have hX : Hid (k + 1 ≤ maxLen ∧ (k + 1) * 8 ≤ 140737488355328) := by
          refine ⟨?_, ?_⟩ <;> (try simp only [maxLen]) <;> omega
        generalize L[k] = g at *
        obtain ⟨nm, sm⟩ := g
        simp only at q0 q1 E
        have HOWN := Lib.hid hown
        have HFR := Lib.hid hfr
        have HNEW := Lib.hid hnew
        clear hown hfr hnew
        go_wp2_with (at_builtin; refine wpList_app _ rfl (.tmp 25) (.tmp 31) 128 128 rfl elI (HOWN.out.alloc _) rfl (Src.of_new wr.heap.size (HNB.out _ _) Tryz.underlying128 rfl (by simp [Value.oneCell'])) rfl hX.out.1 hX.out.2 ?_; intro v1 w3 hown3 hfr3 hnew3)
        go_roundw
        case rel =>
          refine ⟨k + 1, by omega, by go_num, ?_, ?_, ?_⟩
          · rw [E.out]
            exact hown3
          · exact fr_no (HFR.out.alloc _) HNEW.out hfr3
          · exact HNEW.out.trans (Newer.of hnew3) (by have := HFR.out.size; simp; omega)
        case measure => simp [intOf]; omega
      · obtain rfl : k = L.length := by omega
        rw [List.take_length] at hown
        obtain ⟨A4, c4, rfl, hl4, hc4⟩ := hown.form
        have h4 := reftotal_any A4 c4 (sums L) wr (by rw [sums_length]; exact (hown.rd.lt (by omega)).more fun _ h => h.2) (sums_in (each_ok HE.out)) (by rw [sums_length]; omega)
        rw [sums_length] at h4
        have HF := Lib.hid hfr
        clear hown hfr hnew
        have hmain : ∀ W, Fr No w W → Fr No w W := fun _ h => h
        by_cases hT : total (sums L) = 0
        · rw [two64_in (by rw [hT]; unfold In64; omega), hT] at h4
          have H4 := Lib.hid h4
          have HN : Hid (checkE S L = legsE S L) := by show _ = _; unfold checkE; rw [if_neg (by rw [HRB.out]; decide), if_pos hT]
          have HND := Lib.hid (right_nodup HRB.out)
          clear h4 hT hmain
          go_wp2_with fail
          refine H4.out.mono ?_
          rintro e w5 ⟨rfl, hb5⟩
          have HF5 := Lib.hid (HF.out.trans (Fr.of_below hb5 _))
          clear hb5
          go_wp2_with fail
          go_loopw [9] (fun iv ws => CkRel w S L iv ws) (fun iv _ => L.length - (intOf iv).toNat)
          case atStart => exact ⟨0, Nat.zero_le _, rfl, fun g hg => by simp at hg, HF5.out⟩
          case round =>
            obtain ⟨i, hi, rfl, hz, hfi⟩ := hrel
            by_cases hil : i < L.length
            · obtain ⟨ad, rfl, _, hok, q0, q1⟩ := lg_at (HR.out.fr (by omega) hfi fun _ _ _ h => h) HE.out i hil hil
              have HAT : Hid (∀ W, Fr No wr W → Fr No wr W ∧ W.cell? (ad.add (i * 2)) = some (.string L[i].acct) ∧ W.cell? ⟨(ad.add (i * 2)).block, (ad.add (i * 2)).off + 1, none⟩ = some (.int .i64 L[i].sum)) := fun W hW => ⟨hW, hW.cell_some q0 (fun h => h), hW.cell_some q1 (fun h => h)⟩
              have HER : Hid (∀ n, legE S L[i] = n → n ≠ 0 → ∀ W, Fr No w W → checkE S L = n ∧ Fr No w W) := fun n hn h0 W hW => ⟨by rw [HN.out, first_at S L i hil HND.out hz (by rw [hn]; exact h0), hn], hW⟩
              have HNX : Hid (legE S L[i] = 0 → ∀ g ∈ L.take (i + 1), legE S g = 0) := fun h0 => take_zero_next hil hz h0
              generalize L[i] = g at *
              obtain ⟨nm, sm⟩ := g
              unfold Lg.ok at hok
              simp only at q0 q1 hok HAT
              have HGT := Lib.hid (refget_any q S nm wr (HH.out.no hfi) HI.out)
              have HOK := Lib.hid hok
              have HFI := Lib.hid hfi
              have hsr : w.heap.size ≤ wr.heap.size := hfi.size
              clear hfi hz
              cases hq : getA S nm.data.toList with
              | none =>
                have HE6 := Lib.hid (HER.out 6 (legE_none hq) (by omega))
                have hG := HGT.out
                unfold GotR getV at hG
                rw [hq] at hG
                have HG := Lib.hid hG
                clear hG hq HGT HER HNX HOK hok
                go_wp2_with fail
                refine HG.out.mono ?_
                rintro e w6 ⟨rfl, hf6⟩
                have HF6 := Lib.hid (HFI.out.trans hf6)
                clear hf6
                unfold noA Ac.val
                go_wp2
                go_ret
                exact ⟨by rw [(HE6.out w (Fr.refl _ _)).1]; rfl, HF6.out.alloc _⟩
              | some a =>
                have hoka := HI.out.ok a (getA_some hq).1
                have HLE : Hid (legE S ⟨nm, sm⟩ = if sm = -9223372036854775808 then 2 else giveE a (-sm)) := legE_some hq
                have hG := HGT.out
                unfold GotR getV at hG
                rw [hq] at hG
                obtain ⟨na, va, sa, la⟩ := a
                simp only [Option.getD_some, Option.isSome_some, if_true] at hG
                unfold Ac.val at hG
                simp only at hG
                have HG := Lib.hid hG
                have HOA := Lib.hid hoka
                unfold OkA at hoka
                simp only at hoka
                obtain ⟨ho1, ho2, ho3⟩ := hoka
                have HO1 := Lib.hid ho1
                clear hG hq HGT ho2 ho3 hok ho1
                go_wp2_with fail
                refine HG.out.mono ?_
                rintro e w6 ⟨rfl, hf6⟩
                have hF6 : Fr No wr (w6.alloc (.cells #[.string ⟨na.toArray⟩, .int .i64 va, .int .i64 sa, .int .i64 la] 79)) := hf6.alloc _
                have hbx := Blk.new w6 79 #[.string ⟨na.toArray⟩, .int .i64 va, .int .i64 sa, .int .i64 la]
                obtain ⟨_, y0, y1⟩ := HAT.out _ hF6
                have HBX := Lib.hid hbx
                have HF6 := Lib.hid hF6
                have HLS := Lib.hid (refless_any 0 sm (w6.alloc (.cells #[.string ⟨na.toArray⟩, .int .i64 va, .int .i64 sa, .int .i64 la] 79)) (by unfold In64; omega) HOK.out.2)
                clear hf6 hF6 hbx q0 q1
                go_upto_region 17 with (fail)
                generalize (w6.alloc (.cells #[.string ⟨na.toArray⟩, .int .i64 va, .int .i64 sa, .int .i64 la] 79)) = w7 at *
                generalize w6.heap.size = bo at *
                obtain ⟨tl, te, htl⟩ : ∃ tl te, two64 (0 - sm) = .tuple #[.int .i64 tl, .int .i64 te] := ⟨_, _, rfl⟩
                have HTL := Lib.hid htl
                rw [htl] at HLS
                clear htl
                go_wp2_with fail
                refine HLS.out.mono ?_
                rintro e w8 ⟨rfl, hb8⟩
                have hf8 : Fr No w7 w8 := Fr.of_below hb8 _
                have HF8 := Lib.hid hf8
                have hbx8 := HBX.out.fr hf8 (fun h => h)
                have HBX8 := Lib.hid hbx8
                obtain ⟨_, z0, z1⟩ := HAT.out _ (HF6.out.trans hf8)
                have x1 := hbx8.cell 1
                simp only [List.getElem?_toArray, List.getElem?_cons_zero, List.getElem?_cons_succ] at x1
                have z1' : w8.drew.cell? ⟨(ad.add (i * 2)).block, (ad.add (i * 2)).off + 1, none⟩ = some (.int .i64 sm) := z1
                have x1' : w8.drew.cell? ⟨bo, 1, none⟩ = some (.int .i64 va) := x1
                obtain ⟨ta, tb, hta⟩ : ∃ tl te, two64 (va + sm) = .tuple #[.int .i64 tl, .int .i64 te] := ⟨_, _, rfl⟩
                have hAD := refadd_any va sm w8.drew HO1.out HOK.out.2
                rw [hta] at hAD
                have HAD := Lib.hid hAD
                have HTA := Lib.hid hta
                clear hb8 hf8 hbx8 y0 y1 hta hAD HLS HG
                go_upto_region 18 with (fail)
                go_cut [14, 15] (fun a14 a15 wx => (a14 = .int .i64 ta ∧ a15 = .int .i64 tb) ∧ Fr No w8 wx)
                case first =>
                  go_wp2
                  go_region_with (go_at_call 89; (with_reducible refine HAD.out.mono ?_); rintro e w9 ⟨rfl, hb9⟩; have hf9 : Fr No w8 w9 := Fr.trans ((Fr.refl No w8).drew) (Fr.of_below hb9 _))
                  all_goals
                    go_wp2
                    go_meet
                    exact ⟨⟨rfl, rfl⟩, by assumption⟩
                case rest =>
                  obtain ⟨⟨rfl, rfl⟩, hf9⟩ := hcut
                  have HF9 := Lib.hid (HFI.out.trans (HF6.out.trans (HF8.out.trans hf9)))
                  have HFX := Lib.hid ((fun W (_ : Fr No w8 W) => fun (x : Int) (hx : 0 < x ∧ x ≤ 9223372036854775807) => reffree_any ⟨na, va, sa, la⟩ x W HOA.out hx) _ hf9)
                  have hbx9 := HBX8.out.fr hf9 (fun h => h)
                  have x0 := hbx9.cell 0
                  have x1 := hbx9.cell 1
                  have x2 := hbx9.cell 2
                  have x3 := hbx9.cell 3
                  simp only [List.getElem?_toArray, List.getElem?_cons_zero, List.getElem?_cons_succ] at x0 x1 x2 x3
                  clear hf9 hbx9 z0 z1 z1' x1' HAD
                  have h2 : -9223372036854775808 ≤ sm ∧ sm ≤ 9223372036854775807 := HOK.out.2
                  have HRET : Hid (∀ n W, legE S ⟨nm, sm⟩ = n → n ≠ 0 → Fr No w W → checkE S L = n ∧ Fr No w W) := fun n W hn h0 hW => HER.out n hn h0 W hW
                  by_cases hmin : sm = -9223372036854775808
                  · have e1 := HTL.out
                    rw [two64_out (by unfold In64; omega)] at e1
                    injection e1 with e1
                    obtain ⟨rfl, rfl⟩ := two_inj e1
                    have HEND := Lib.hid (HRET.out 2 _ (by rw [HLE.out, if_pos hmin]) (by omega) HF9.out)
                    clear hmin h2 e1
                    go_wp2
                    go_ret
                    exact ⟨by rw [HEND.out.1]; rfl, HEND.out.2⟩
                  · have e1 := HTL.out
                    rw [two64_in (by unfold In64; omega)] at e1
                    injection e1 with e1
                    obtain ⟨e1, rfl⟩ := two_inj e1
                    have HLE2 : Hid (legE S ⟨nm, sm⟩ = giveE ⟨na, va, sa, la⟩ (-sm)) := by show _ = _; rw [HLE.out, if_neg hmin]
                    have e2 := HTA.out
                    by_cases hin : In64 (va + sm)
                    · rw [two64_in hin] at e2
                      injection e2 with e2
                      obtain ⟨rfl, rfl⟩ := two_inj e2
                      have hin' : In64 (va - -sm) := by rw [Int.sub_neg]; exact hin
                      by_cases hpos : 0 < tl
                      · have hx := HFX.out tl ⟨hpos, by omega⟩
                        have en : -sm = tl := by omega
                        cases hfb : freeB ⟨na, va, sa, la⟩ tl with
                        | false =>
                          rw [hfb] at hx
                          have HX := Lib.hid hx
                          have HG9 : Hid (giveE ⟨na, va, sa, la⟩ (-sm) = 9) := by show _ = _; unfold giveE; rw [if_pos hin', en, if_pos ⟨hpos, hfb⟩]
                          have HRT9 : Hid (∀ W, Fr No w W → checkE S L = 9 ∧ Fr No w W) := fun W hW => HRET.out 9 W (by rw [HLE2.out, HG9.out]) (by omega) hW
                          clear hx hfb en hin' hin e1 e2 hmin h2
                          go_wp2_with fail
                          (with_reducible refine HX.out.mono ?_)
                          rintro e w10 ⟨rfl, hf10⟩
                          have HEND := Lib.hid (HRT9.out _ (HF9.out.trans hf10))
                          clear hf10
                          go_wp2
                          go_ret
                          exact ⟨by rw [HEND.out.1]; rfl, HEND.out.2⟩
                        | true =>
                          rw [hfb] at hx
                          have HX := Lib.hid hx
                          have HG0 : Hid (∀ g ∈ L.take (i + 1), legE S g = 0) := HNX.out (by rw [HLE2.out]; unfold giveE; rw [if_pos hin', en, if_neg (by rw [hfb]; simp)])
                          clear hx hfb en hin' hin e1 e2 hmin h2
                          go_wp2_with fail
                          (with_reducible refine HX.out.mono ?_)
                          rintro e w10 ⟨rfl, hf10⟩
                          have HF10 := Lib.hid (HF9.out.trans hf10)
                          clear hf10
                          go_wp2
                          go_roundw
                          case rel => exact ⟨i + 1, by omega, by go_num, HG0.out, HF10.out⟩
                          case measure => simp [intOf]; omega
                      · have HG0 : Hid (∀ g ∈ L.take (i + 1), legE S g = 0) := HNX.out (by rw [HLE2.out]; unfold giveE; rw [if_pos hin', if_neg (fun h => hpos (by have := h.1; omega))])
                        clear hin' hin e1 e2 hmin h2
                        go_wp2
                        go_roundw
                        case rel => exact ⟨i + 1, by omega, by go_num, HG0.out, HF9.out⟩
                        case measure => simp [intOf]; omega
                    · rw [two64_out hin] at e2
                      injection e2 with e2
                      obtain ⟨rfl, rfl⟩ := two_inj e2
                      have HEND := Lib.hid (HRET.out 2 _ (by rw [HLE2.out]; unfold giveE; rw [if_neg (by rw [Int.sub_neg]; exact hin)]) (by omega) HF9.out)
                      clear hmin h2 e1 e2 hin
                      go_wp2
                      go_ret
                      exact ⟨by rw [HEND.out.1]; rfl, HEND.out.2⟩
            · obtain rfl : i = L.length := by omega
              have HZ : Hid (checkE S L = 0) := by show _ = _; rw [HN.out]; rw [List.take_length] at hz; exact all_zero S HND.out hz
              have HFI := Lib.hid hfi
              clear hz hfi
              go_wp2
              go_ret
              exact ⟨by rw [HZ.out]; rfl, HFI.out⟩
        · have HN : Hid (checkE S L = 8) := by show _ = _; unfold checkE; rw [if_neg (by rw [HRB.out]; decide), if_neg hT]
          clear hmain
          by_cases hin : In64 (total (sums L))
          · rw [two64_in hin] at h4
            have H4 := Lib.hid h4
            have hz : (total (sums L) == 0) = false := beq_eq_false_iff_ne.2 hT
            have hz2 : (total (sums L) != 0) = true := by rw [bne_iff_ne]; exact hT
            generalize total (sums L) = tt at *
            clear h4 hin hT
            go_wp2_with fail
            refine H4.out.mono ?_
            rintro e w5 ⟨rfl, hb5⟩
            have HF5 := Lib.hid (HF.out.trans (Fr.of_below hb5 _))
            clear hb5
            go_wp2
            go_ret
            exact ⟨by rw [HN.out]; rfl, HF5.out⟩
          · rw [two64_out hin] at h4
            have H4 := Lib.hid h4
            clear h4 hin hT
            go_wp2_with fail
            refine H4.out.mono ?_
            rintro e w5 ⟨rfl, hb5⟩
            have HF5 := Lib.hid (HF.out.trans (Fr.of_below hb5 _))
            clear hb5
            go_wp2
            go_ret
            exact ⟨by rw [HN.out]; rfl, HF5.out⟩
end Go.Proofs.YtdooapnnohbjjaaGreat

namespace Go.My
open Go
/-- a region that reads, and stores at its end: the world behind the draw under a name -/
theorem wp_region_tail {P : Program} {id : Nat} {Q : Exit → Act → World → Prop} {a : Act} {w : World} {l : List Oper} (n : Nat) (hm : P.follows .mixedOrders = true) (hB : Region.lexTailB .any l.toArray n = true)
    (h : ∀ w', w' = w.drew → wpStill P l.toArray w' (fun a' => wpList P l.toArray Q (l.drop n) a' w') (l.take n) a) : (Code.region id l.toArray true).wp P Q a w :=
  wp_region_still_tail n hm hB (h _ rfl)
end Go.My
namespace Go.Proofs.YtdooapnnohbjjaaGreat
open Go.RowKit Go.My Go.Maps
set_option linter.unusedSimpArgs false
set_option linter.unusedVariables false
attribute [local go_sem ↓] Go.wp_at_zero Go.wp_at_succ

theorem legs_append : ∀ (A B : List Lg) (S : List Ac), legsE S A = 0 → legsE S (A ++ B) = legsE (legsS S A) B ∧ legsS S (A ++ B) = legsS (legsS S A) B
  | [], B, S, _ => ⟨rfl, rfl⟩
  | g :: r, B, S, h => by
    rw [legsE_cons] at h
    by_cases h0 : legE S g = 0
    · rw [if_pos h0] at h
      have ih := legs_append r B (legS S g) h
      rw [List.cons_append, legsE_cons, legsS_cons, legsS_cons, if_pos h0, if_pos h0, if_pos h0]
      exact ih
    · rw [if_neg h0] at h
      exact absurd h h0
theorem legs_app_ne : ∀ (A B : List Lg) (S : List Ac), legsE S A ≠ 0 → legsE S (A ++ B) ≠ 0
  | [], B, S, h => absurd rfl h
  | g :: r, B, S, h => by
    rw [legsE_cons] at h
    rw [List.cons_append, legsE_cons]
    by_cases h0 : legE S g = 0
    · rw [if_pos h0] at h ⊢
      exact legs_app_ne r B _ h
    · rw [if_neg h0]
      exact h0
/-- the next leg of legs that may be posted -/
theorem legs_next {S : List Ac} {L : List Lg} (h : legsE S L = 0) (i : Nat) (hi : i < L.length) : legE (legsS S (L.take i)) L[i] = 0 ∧ legsS S (L.take (i + 1)) = legS (legsS S (L.take i)) L[i] := by
  have h1 : legsE S (L.take i) = 0 := by
    rcases Decidable.em (legsE S (L.take i) = 0) with h0 | h0
    · exact h0
    · exfalso
      have := legs_app_ne (L.take i) (L.drop i) S h0
      rw [List.take_append_drop] at this
      exact this h
  have hsp : L = L.take i ++ (L[i] :: L.drop (i + 1)) := by simp
  have h2 : legsE (legsS S (L.take i)) (L[i] :: L.drop (i + 1)) = 0 := by
    have := (legs_append (L.take i) (L[i] :: L.drop (i + 1)) S h1).1
    rw [← hsp] at this
    rw [← this]
    exact h
  have h3 : legE (legsS S (L.take i)) L[i] = 0 := by
    rw [legsE_cons] at h2
    rcases Decidable.em (legE (legsS S (L.take i)) L[i] = 0) with h0 | h0
    · exact h0
    · rw [if_neg h0] at h2
      exact absurd h2 h0
  refine ⟨h3, ?_⟩
  rw [List.take_succ_eq_append_getElem hi, (legs_append (L.take i) [L[i]] S h1).2, legsS_cons, if_pos h3]
  rfl
theorem rise_inj {S : List Ac} (h : Rise S) {i k : Nat} (hi : i < S.length) (hk : k < S.length) (e : S[i].name = S[k].name) : i = k := by
  rcases Nat.lt_trichotomy i k with h1 | h1 | h1
  · have := List.pairwise_iff_getElem.1 h i k hi hk h1
    unfold Ac.key at this
    rw [e, WideShapes.before_irrefl] at this
    cases this
  · exact h1
  · have := List.pairwise_iff_getElem.1 h k i hk hi h1
    unfold Ac.key at this
    rw [e, WideShapes.before_irrefl] at this
    cases this
theorem refat_at (q : Nat) (S : List Ac) (s : ByteArray) (k : Nat) (hk : k < S.length) (w : World) (h : RfS w q S) (hI : Inv S) (hn : S[k].name = s.data.toList) :
    Calls Tryz.prog 50 #[.pointer (some ⟨q, 0, none⟩), .string s] w fun e w' => e = .returned (.int .i64 k) ∧ w = w' := by
  refine (refat_any q S s w h hI.len).mono ?_
  rintro e w' ⟨z, rfl, hz, rfl⟩
  rcases hz with ⟨hg, _⟩ | ⟨j, hj, rfl, hnm, _⟩
  · exact absurd hn (getA_none hg _ (List.getElem_mem hk))
  · have := rise_inj hI.rise hj hk (by rw [hnm, hn])
    subst this
    exact ⟨rfl, rfl⟩
def MkRel (w : World) (q : Nat) (S : List Ac) (L : List Lg) (iv : Value) (wr : World) : Prop := ∃ i : Nat, i ≤ L.length ∧ iv = .int .i64 i ∧ RfS wr q (legsS S (L.take i)) ∧ Fr (At1 q) w wr

set_option maxRecDepth 100000 in
set_option maxHeartbeats 4000000 in
theorem refmake_any (q : Nat) (S : List Ac) (F : Nat → Prop) (A : Option Addr) (c : Nat) (cells : List Value) (L : List Lg) (w : World) (h : RfS w q S) (hI : Inv S) (hr : Rd w F 2 A L.length cells) (hF : ∀ k, F k → k < w.heap.size ∧ k ≠ q) (hE : Each RdLg 2 cells L) (hL : L.length ≤ 100) :
    Calls Tryz.prog 25 #[.pointer (some ⟨q, 0, none⟩), .slice A L.length c] w (DeedsR q (checkE S L) (makeS S L) w) := by
  have HR := Lib.hid hr
  have HE := Lib.hid hE
  have HH := Lib.hid h
  have HI := Lib.hid hI
  have HF := Lib.hid hF
  have HCK := Lib.hid (refcheck_any q S F A c cells L w h hI hr hE hL)
  by_cases h0 : checkE S L = 0
  · have HM : Hid (makeS S L = legsS S L) := by show _ = _; unfold makeS; rw [if_pos h0]
    have HZ := Lib.hid h0
    have HLZ := Lib.hid (check_zero h0).2.2
    rw [h0] at HCK
    clear hr hE h hI hF h0
    go_enter Tryz.func25, Tryz.ntmps25
    go_wp2_with fail
    refine HCK.out.mono ?_
    rintro e w1 ⟨rfl, hf1⟩
    have HST : Hid (RfS w1 q (legsS S (L.take 0)) ∧ Fr (At1 q) w w1) := ⟨HH.out.no hf1, hf1.mono fun _ _ h => False.elim h⟩
    clear hf1
    go_wp2_with fail
    go_loopw [6] (fun iv wr => MkRel w q S L iv wr) (fun iv _ => L.length - (intOf iv).toNat)
    case atStart => exact ⟨0, Nat.zero_le _, rfl, HST.out.1, HST.out.2⟩
    case round =>
      obtain ⟨i, hi, rfl, hrf, hfr⟩ := hrel
      by_cases hil : i < L.length
      · obtain ⟨ad, rfl, had, hok, q0, q1⟩ := lg_at (HR.out.fr (by omega) hfr fun k hk _ h => (HF.out k hk).2 h) HE.out i hil hil
        obtain ⟨hl0, hln⟩ := legs_next HLZ.out i hil
        have hIT : Inv (legsS S (L.take i)) := inv_legs HI.out _
        obtain ⟨a, ha, hin, hmin, _, hls⟩ := leg_some hl0
        rw [hls] at hln
        generalize legsS S (L.take i) = T at *
        generalize L[i] = g at *
        obtain ⟨k, hk, rfl⟩ := List.getElem_of_mem (getA_some ha).1
        have hnk : T[k].name = g.nm := (getA_some ha).2
        have HLN : Hid (legsS S (L.take (i + 1)) = T.set k { T[k] with hv := T[k].hv + g.sum }) := by
          show _ = _
          rw [hln]
          exact put_set T k hk _ hIT.rise rfl
        have HCS : Hid ((acs T).set (k * 4 + 1) (.int .i64 (T[k].hv + g.sum)) = acs (T.set k { T[k] with hv := T[k].hv + g.sum })) := acs_set T k 1 hk { T[k] with hv := T[k].hv + g.sum } _ (by omega) rfl
        obtain ⟨nm, sm⟩ := g
        unfold Lg.nm at hnk
        unfold Lg.ok at hok
        simp only at q0 q1 hok hnk HLN HCS hin
        have HAT : Hid (∀ W, RfS W q T → Calls Tryz.prog 50 #[.pointer (some ⟨q, 0, none⟩), .string nm] W fun e w' => e = .returned (.int .i64 k) ∧ w' = W) := fun W hW => (refat_at q T nm k hk W hW hIT hnk).mono fun _ _ h => ⟨h.1, h.2.symm⟩
        obtain ⟨A1, c1, hb, h1, h2, ho⟩ := hrf
        obtain ⟨bd, rfl, _, p0, p1, p2, p3⟩ := acs_at ho.rd k hk
        have HGB : Hid (∀ b, (∀ cur, ¬ Blk wr b 79 cur) ∨ wr.heap.size ≤ b → True) := fun _ _ => trivial
        have hTL := hIT.len
        have hqn : (ad.add (i * 2)).block ≠ q := by rw [block_of_add]; exact (HF.out _ had).2
        have hqs : (ad.add (i * 2)).block < wr.heap.size := World.block_lt_of_cell? wr _ q0
        generalize hva : T[k].hv = va at *
        have HVA := Lib.hid hva
        clear hva
        generalize hTT : T.set k { T[k] with hv := va + sm } = T' at *
        have hT'n : T'.length = T.length := by rw [← hTT, List.length_set]
        have c0 := hb.cell 0
        have f0 := hb.frozen 0
        simp only [List.getElem?_toArray, List.getElem?_cons_zero] at c0
        have HB := Lib.hid hb
        have HO := Lib.hid ho
        have HFR := Lib.hid hfr
        have HIN := Lib.hid hin
        unfold In64 at hin
        obtain ⟨hin1, hin2⟩ := hin
        unfold maxLen at h2
        have hsz := hfr.size
        clear hb ho hfr hIT hnk hls hln hl0 ha hmin hok HGB hTT p0 p1 p2 p3
        go_upto_region 6 with (at_builtin; refine wpList_app _ rfl (.const (.slice none 0 0)) (.tmp 24) 48 48 rfl elA (Own.nil _ _ _) rfl (Src.of_rd HO.out.rd (acs_ones T) Tryz.underlying48) rfl (by unfold maxLen; omega) (by omega) ?_; intro v4 w4 hown4 hfr4 hnew4; rw [Nat.zero_add, List.nil_append] at hown4; obtain ⟨g, c4, cur4, rfl, hg4, hc4, hm4, _, _⟩ := hown4.formPos (by omega); have hf4 := fr_at_none (show Fr (AtO none) _ w4 from hfr4); have hb4 := HB.out.fr hf4 (fun h => h); have k4 := hb4.cell 0; have z4 := hb4.frozen 0; simp only [List.getElem?_toArray, List.getElem?_cons_zero] at k4)
        have hqg : q ≠ g := fun h => hown4.ne_ hb4 (by decide) (by rw [h]; rfl)
        have hgn : w.heap.size ≤ g := by
          rcases hnew4 with h | h
          · cases h
          · have h' : some g = some _ := h
            injection h' with h'
            omega
        have hown5 := hown4.setCell (p := ⟨q, 0, none⟩) (hown4.ne_ hb4 (by decide)) (.slice (some ⟨g, 0, none⟩) T.length c4)
        have hb5 := hb4.set_ 0 (.slice (some ⟨g, 0, none⟩) T.length c4)
        have hf5 : Fr (At1 q) wr (w4.setCell ⟨q, 0, none⟩ (.slice (some ⟨g, 0, none⟩) T.length c4)) := Fr.setCell (S := At1 q) (p := ⟨q, 0, none⟩) (hf4.mono fun _ _ h => False.elim h) (fun _ => rfl) _
        generalize (w4.setCell ⟨q, 0, none⟩ (.slice (some ⟨g, 0, none⟩) T.length c4)) = w5 at *
        have hrf5 : RfS w5 q T := rfs_mk rfl hb5 hc4 hm4 hown5
        refine wp_region_tail 22 (by kernel_rfl) (by kernel_rfl) fun w6 hw6 => ?_
        have h56 : Fr No w5 w6 := by rw [hw6]; exact (Fr.refl _ _).drew
        have HF6 := Lib.hid (hf5.trans (h56.mono fun _ _ h => False.elim h))
        have y0 : w6.cell? (ad.add (i * 2)) = some (.string nm) := HF6.out.cell_some q0 hqn
        have y1 : w6.cell? ⟨(ad.add (i * 2)).block, (ad.add (i * 2)).off + 1, none⟩ = some (.int .i64 sm) := HF6.out.cell_some q1 hqn
        have k6 : w6.cell? ⟨q, 0, none⟩ = some (.slice (some ⟨g, 0, none⟩) T.length c4) := (hb5.fr h56 (fun h => h)).cell 0
        have hown6 := hown5.fr h56 (fun _ _ h => h)
        have HRF6 := Lib.hid (hrf5.no h56)
        have HB6 := Lib.hid (hb5.fr h56 (fun h => h))
        obtain ⟨dd, hdd, _, _, r1, _, _⟩ := acs_at hown6.rd k hk
        injection hdd with hdd
        subst hdd
        rw [add_zero, HVA.out] at r1
        have r1' : w6.cell? ⟨g, k * 4 + 1, none⟩ = some (.int .i64 va) := r1
        clear r1
        obtain ⟨hown7, -, hz7⟩ := own_set hown6 (k * 4 + 1) (by omega) (by omega) (.int .i64 (va + sm))
        have HO7 := Lib.hid hown7
        have HAT6 := Lib.hid (HAT.out w6 HRF6.out)
        have hks : k < T.length := hk
        clear hw6 h56 hown5 hown6 hb5 hf5 hrf5 hown4 hf4 hfr4 hb4 k4 z4 hnew4 hg4 hown7 c0 f0 q0 q1
        simp only [List.take_succ_cons, List.take_zero, List.drop_succ_cons, List.drop_zero]
        repeat still_step
        still_call HAT6.out
        repeat still_step
        refine wpStill_nil ?_
        go_wp2
        go_roundw
        case rel =>
          refine ⟨i + 1, by omega, by go_num, ?_, ?_⟩
          · rw [HLN.out]
            refine rfs_mk (by omega) (HB6.out.far hqg _) hc4 hm4 ?_
            rw [← HCS.out]
            exact HO7.out
          · exact Fr.setCell (S := At1 q) (p := ⟨g, k * 4 + 1, none⟩) (HFR.out.trans HF6.out) (fun h => absurd h (by show ¬ g < _; omega)) _
        case measure => simp [intOf]; omega
      · obtain rfl : i = L.length := by omega
        have HEND : Hid (RfS wr q (makeS S L)) := by
          rw [List.take_length] at hrf
          show RfS _ _ _
          rw [HM.out]
          exact hrf
        have HFR := Lib.hid hfr
        clear hrf hfr
        go_wp2
        go_ret
        exact ⟨by rw [HZ.out]; rfl, HEND.out, HFR.out⟩
  · have HM := Lib.hid (make_err h0)
    have hz : (checkE S L == 0) = false := beq_eq_false_iff_ne.2 h0
    generalize checkE S L = E at *
    clear hr hE h hI hF h0
    go_enter Tryz.func25, Tryz.ntmps25
    go_wp2_with fail
    refine HCK.out.mono ?_
    rintro e w1 ⟨rfl, hf1⟩
    have HST : Hid (RfS w1 q S ∧ Fr (At1 q) w w1) := ⟨HH.out.no hf1, hf1.mono fun _ _ h => False.elim h⟩
    clear hf1
    by_cases hl : 0 < L.length
    all_goals
      go_wp2_with fail
      go_loopw [6] (fun iv wr => iv = .int .i64 0 ∧ wr = w1) (fun _ _ => 0)
      case atStart => exact ⟨rfl, rfl⟩
      case round =>
        obtain ⟨rfl, rfl⟩ := hrel
        go_wp2
        go_ret
        exact ⟨rfl, by rw [HM.out]; exact HST.out.1, HST.out.2⟩
end Go.Proofs.YtdooapnnohbjjaaGreat

namespace Go.Proofs.YtdooapnnohbjjaaGreat
open Go.RowKit Go.My Go.Maps
set_option linter.unusedSimpArgs false
set_option linter.unusedVariables false
attribute [local go_sem ↓] Go.wp_at_zero Go.wp_at_succ

theorem refmakeT_any (q : Nat) (S : List Ac) (a b : ByteArray) (x : Int) (w : World) (h : RfS w q S) (hI : Inv S) (ha : a.size ≤ maxLen) (hb : b.size ≤ maxLen) (hx : 0 < x ∧ x ≤ 9223372036854775807) :
    Calls Tryz.prog 25 #[.pointer (some ⟨q, 0, none⟩), .slice (some ⟨w.heap.size, 0, none⟩) 2 2] (w.alloc (.cells #[.string a, .int .i64 (-x), .string b, .int .i64 x] 106)) (DeedsR q (checkE S (legsT a b x)) (makeS S (legsT a b x)) (w.alloc (.cells #[.string a, .int .i64 (-x), .string b, .int .i64 x] 106))) := by
  have hbk := Blk.new w 106 #[.string a, .int .i64 (-x), .string b, .int .i64 x]
  have hql := h.lt
  refine refmake_any q S (fun k => k = w.heap.size) _ 2 [.string a, .int .i64 (-x), .string b, .int .i64 x] (legsT a b x) _ (h.no ((Fr.refl _ _).alloc _)) hI ⟨rfl, fun _ => ⟨_, rfl, rfl, fun j u hu => ?_⟩⟩ (fun k hk => ?_) ⟨rfl, fun i g hg => ?_⟩ (by simp [legsT])
  · rw [add_zero, hbk.cell j]
    simpa using hu
  · subst hk
    exact ⟨by simp, by omega⟩
  · have hlt : i < 2 := by have := (List.getElem?_eq_some_iff.1 hg).1; simpa [legsT] using this
    match i, hlt with
    | 0, _ =>
      simp only [legsT, List.getElem?_cons_zero, Option.some.injEq] at hg
      subst hg
      exact ⟨rfl, ha, by unfold In64; simp only; omega⟩
    | 1, _ =>
      simp only [legsT, List.getElem?_cons_succ, List.getElem?_cons_zero, Option.some.injEq] at hg
      subst hg
      exact ⟨rfl, hb, by unfold In64; simp only; omega⟩
set_option maxRecDepth 100000 in
set_option maxHeartbeats 2000000 in
theorem rtake_any (q r : Nat) (S : List Ac) (H : List Hd) (s b : ByteArray) (n x : Int) (w : World) (hc : RfS w q S) (hI : Inv S) (hh : RfH w r H) (hr : RiseH H) (hP : PosH H) (hH : H.length < 1000) (hs : s.size ≤ maxLen) (hb : b.size ≤ maxLen) (hx : In64 x) :
    Calls Tryz.prog 27 #[.pointer (some ⟨r, 0, none⟩), .pointer (some ⟨q, 0, none⟩), .string s, .int .i64 n, .string b, .int .i64 x] w (RRet q r (takeE S H s n b x) (takeSS S H s n b x) (takeHH S H s n b x) w) := by
  have HNO : Hid (∀ W, Fr No w W → RfS W q S ∧ RfH W r H ∧ Fr (At2 q r) w W) := fun W hW => ⟨hc.no hW, hh.no hW, hW.mono fun _ _ h => False.elim h⟩
  have HERR : Hid (∀ W k, Fr No w W → takeE S H s n b x = k → k ≠ 0 → RRet q r (takeE S H s n b x) (takeSS S H s n b x) (takeHH S H s n b x) w (.returned (.int .i64 k)) W) := fun W k h3 h4 h5 => by
    rw [← h4] at h5 ⊢
    refine ⟨rfl, ?_, ?_, (HNO.out W h3).2.2⟩
    · unfold takeSS; rw [if_neg h5]; exact (HNO.out W h3).1
    · unfold takeHH; rw [if_neg h5]; exact (HNO.out W h3).2.1
  have HAT := Lib.hid (rat_any r H s n w hh hH)
  have hqs := hc.lt
  have hrs := hh.lt
  obtain ⟨A, c, hbr, h1, h2, ho⟩ := hh
  have c0 := hbr.cell 0
  simp only [List.getElem?_toArray, List.getElem?_cons_zero] at c0
  have HO := Lib.hid ho.rd
  clear hbr ho
  have HC := Lib.hid hc
  obtain ⟨B, cB, hbq, g1, g2, hoq⟩ := hc
  have b0 := hbq.cell 0
  simp only [List.getElem?_toArray, List.getElem?_cons_zero] at b0
  have HD : Hid (RfS (w.alloc (.cells #[.slice B S.length cB] 60)) w.heap.size S) := rfs_mk rfl (Blk.new w 60 #[.slice B S.length cB]) g1 g2 (hoq.alloc _)
  have HI := Lib.hid hI
  have HS := Lib.hid hs
  have HBZ := Lib.hid hb
  clear hbq hoq hI hs hb
  go_enter Tryz.func27, Tryz.ntmps27
  go_wp2_with fail
  refine HAT.out.mono ?_
  rintro e wA ⟨z, rfl, hz, rfl⟩
  rcases hz with ⟨hg, rfl⟩ | ⟨k, hk, rfl, e1, e2, hg⟩
  · have HE : Hid (takeE S H s n b x = 6) := by show _ = _; unfold takeE; rw [hg]
    clear hg
    go_wp2
    go_ret
    exact HERR.out _ 6 (Fr.refl _ _) HE.out (by decide)
  · have hpos := hP H[k] (List.getElem_mem hk)
    have HE0 : Hid (takeE S H s n b x = if x < 1 ∨ H[k].sum < x then 13 else if asdE S s.data.toList (-H[k].sum) = 0 then checkE (asdS S s.data.toList (-H[k].sum)) (legsT s b x) else asdE S s.data.toList (-H[k].sum)) := by show _ = _; unfold takeE; rw [hg]
    have HE2 : Hid (takeE S H s n b x = 0 → takeSS S H s n b x = makeS (asdS S s.data.toList (-H[k].sum)) (legsT s b x)) := fun h => by unfold takeSS; rw [if_pos h, hg]; rfl
    have HE3 : Hid (takeE S H s n b x = 0 → takeHH S H s n b x = H.take k ++ H.drop (k + 1)) := fun h => by unfold takeHH; rw [if_pos h]; exact del_atH hr hk e1 e2
    have HCUT := Lib.hid (fun W (hW : RfH W r H) => rcut_any r H k W hW hk hH)
    obtain ⟨ad, rfl, _, _, _, p2⟩ := hd_at HO.out k hk
    have hpt : 0 < H[k].sum ∧ H[k].sum ≤ 9223372036854775807 := ⟨hpos.2.2.1, hpos.2.2.2.1⟩
    have hk0 : ¬ (k : Int) < 0 := by omega
    clear hg e1 e2 hpos hP hr
    generalize H[k].sum = t at *
    by_cases hx1 : x < 1
    · have HE : Hid (takeE S H s n b x = 13) := by show _ = _; rw [HE0.out, if_pos (.inl hx1)]
      go_wp2
      go_ret
      exact HERR.out _ 13 (Fr.refl _ _) HE.out (by decide)
    by_cases hx2 : t < x
    · have HE : Hid (takeE S H s n b x = 13) := by show _ = _; rw [HE0.out, if_pos (.inr hx2)]
      go_wp2
      go_ret
      exact HERR.out _ 13 (Fr.refl _ _) HE.out (by decide)
    have HE1 : Hid (takeE S H s n b x = if asdE S s.data.toList (-t) = 0 then checkE (asdS S s.data.toList (-t)) (legsT s b x) else asdE S s.data.toList (-t)) := by show _ = _; rw [HE0.out, if_neg (by omega)]
    clear HE0
    have HAS : Hid (Calls Tryz.prog 55 #[.pointer (some ⟨w.heap.size, 0, none⟩), .string s, .int .i64 (-t)] (w.alloc (.cells #[.slice B S.length cB] 60)) (DeedsR w.heap.size (asdE S s.data.toList (-t)) (asdS S s.data.toList (-t)) (w.alloc (.cells #[.slice B S.length cB] 60)))) := refaside_any w.heap.size S s (-t) _ HD.out HI.out (in_neg hpt)
    have hwt : wrap64 (-t) = -t := IntWalk.wrap64_in _ ⟨by omega, by omega⟩
    have hwx : wrap64 (-x) = -x := IntWalk.wrap64_in _ ⟨by omega, by omega⟩
    have ca := fun o => ((Fr.refl No w).alloc o).cell_some c0 (fun h => h)
    have pa := fun o => ((Fr.refl No w).alloc o).cell_some p2 (fun h => h)
    have HI1 := Lib.hid (inv_aside HI.out s.data.toList (-t))
    have hxp : 0 < x ∧ x ≤ 9223372036854775807 := ⟨by omega, by omega⟩
    go_wp2_with fail
    refine HAS.out.mono ?_
    rintro e w2 ⟨rfl, hd2, hf2⟩
    have HF2 : Hid (Fr No w w2) := ((Fr.refl No w).alloc _).trans' hf2 (fun i hi hlt => absurd hlt (by have h : i = w.heap.size := hi; omega))
    have HD2 := Lib.hid hd2
    have hs2 : w.heap.size ≤ w2.heap.size := HF2.out.size
    clear hd2 hf2 ca pa p2 c0 b0 HD
    by_cases h0 : asdE S s.data.toList (-t) = 0
    · have HE : Hid (takeE S H s n b x = checkE (asdS S s.data.toList (-t)) (legsT s b x)) := by show _ = _; rw [HE1.out, if_pos h0]
      rw [h0]
      have HMK := Lib.hid (refmakeT_any w.heap.size (asdS S s.data.toList (-t)) s b x w2 HD2.out HI1.out HS.out HBZ.out hxp)
      clear h0
      generalize asdS S s.data.toList (-t) = S1 at *
      go_wp2_with fail
      refine HMK.out.mono ?_
      rintro e w3 ⟨rfl, hd3, hf3⟩
      have HF3 : Hid (Fr No w w3) := (HF2.out.alloc _).trans' hf3 (fun i hi hlt => absurd hlt (by have h : i = w.heap.size := hi; omega))
      have HD3 := Lib.hid hd3
      clear hd3 hf3
      by_cases h3 : checkE S1 (legsT s b x) = 0
      · have HP : Hid (takeE S H s n b x = 0) := by show _ = _; rw [HE.out, h3]
        rw [h3]
        clear h3
        obtain ⟨hc3, hh3, hfr3⟩ := HNO.out w3 HF3.out
        have HH3 := Lib.hid hh3
        have HFR3 := Lib.hid hfr3
        have hE2 := HE2.out HP.out
        have HE2' := Lib.hid hE2
        obtain ⟨D, cD, hbd, e1, e2, hod⟩ := HD3.out
        obtain ⟨B3, c3, hbq, _, _, _⟩ := hc3
        have q0 := hbq.cell 0
        have y0 := hbq.frozen 0
        have d0 := hbd.cell 0
        simp only [List.getElem?_toArray, List.getElem?_cons_zero] at q0 d0
        have HBQ := Lib.hid hbq
        have HOD := Lib.hid hod
        generalize makeS S1 (legsT s b x) = S2 at *
        have HST : Hid (Fr (At1 q) w3 (w3.setCell ⟨q, 0, none⟩ (.slice D S2.length cD))) := Fr.setCell (S := At1 q) (p := ⟨q, 0, none⟩) (Fr.refl _ _) (fun _ => rfl) _
        have HH4 := Lib.hid (HH3.out.chart HBQ.out HST.out)
        have HC4 : Hid (RfS (w3.setCell ⟨q, 0, none⟩ (.slice D S2.length cD)) q S2) := rfs_mk rfl (HBQ.out.set_ 0 _) e1 e2 (HOD.out.setCell (p := ⟨q, 0, none⟩) (HOD.out.ne_ HBQ.out (by decide)) _)
        clear hh3 hfr3 hbd hbq hod hE2
        go_wp2_with fail
        refine (HCUT.out _ HH4.out).mono ?_
        rintro e w5 ⟨rfl, hh5, hf5⟩
        have HH5 := Lib.hid hh5
        have HF5 := Lib.hid hf5
        obtain ⟨cs, hbr⟩ := HH4.out.blk
        have HC5 := Lib.hid (HC4.out.holds hbr hf5)
        clear hh5 hf5 hbr
        go_wp2
        go_ret
        refine ⟨by rw [HP.out]; rfl, ?_, ?_, ?_⟩
        · rw [HE2'.out]; exact HC5.out
        · rw [HE3.out HP.out]; exact HH5.out
        · exact (HFR3.out.trans (HST.out.mono fun _ _ h => .inl h)).trans (HF5.out.mono fun _ _ h => .inr h)
      · have HNZ := Lib.hid h3
        have hz : (checkE S1 (legsT s b x) == 0) = false := beq_eq_false_iff_ne.2 h3
        have hz2 : (checkE S1 (legsT s b x) != 0) = true := bne_iff_ne.2 h3
        generalize checkE S1 (legsT s b x) = ev at *
        clear h3
        go_wp2
        go_ret
        exact HERR.out _ ev HF3.out HE.out HNZ.out
    · have HE : Hid (takeE S H s n b x = asdE S s.data.toList (-t)) := by show _ = _; rw [HE1.out, if_neg h0]
      have HNZ := Lib.hid h0
      have hz : (asdE S s.data.toList (-t) == 0) = false := beq_eq_false_iff_ne.2 h0
      have hz2 : (asdE S s.data.toList (-t) != 0) = true := bne_iff_ne.2 h0
      generalize asdE S s.data.toList (-t) = ev at *
      clear h0
      go_wp2
      go_ret
      exact HERR.out _ ev HF2.out HE.out HNZ.out
end Go.Proofs.YtdooapnnohbjjaaGreat
