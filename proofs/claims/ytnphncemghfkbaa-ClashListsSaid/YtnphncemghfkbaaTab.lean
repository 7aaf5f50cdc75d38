/- Maps from numbers to values of any kind (functions, structs of them) that the call makes: of no program. -/
import Derived.Test.YtnphncemghfkbaaLib
import Derived.Test.YtnphncemghfkbaaCoinsMath
import Derived.Maps.Ext
import Derived.Maps.OwnSet
import Derived.Maps.OwnOps
namespace Go.My
open Go Go.RowKit Go.Maps
set_option linter.unusedSimpArgs false
set_option linter.unusedVariables false

def heldR (v : Value) : Option (DataW Value × List MemPlace) := some (.held v, [])
theorem isKey_int (k : Int) : WideAt.IsKeyLit (.int .i64 k) := by unfold WideAt.IsKeyLit; exact True.intro
/-- block m is such a map: what it holds, by key -/
def Tab (P : Program) (kt : TypeId) (w : World) (m n : Nat) (f : Int → Option Value) : Prop :=
  ∃ D : DataW Value, w.ownsMap P kt heldR m n D ∧ Tidy D ∧ (∀ k, In64 k → Maps.has D (.int .i64 k) = (f k).isSome) ∧ ∀ k, In64 k → ∀ z, D.atKey (.int .i64 k) z = match f k with | some v => .held v | none => z
section
variable {P : Program} {kt : TypeId} {w w' : World} {m n : Nat} {f : Int → Option Value}
theorem Tab.lt (h : Tab P kt w m n f) : m < w.heap.size := by obtain ⟨D, h, _⟩ := h; exact h.lt
theorem Tab.fr {F : Nat → Prop} (h : Tab P kt w m n f) (hf : Fr F w w') (hn : ¬ F m) : Tab P kt w' m n f := by
  obtain ⟨D, ⟨es, clock, hb, r⟩, r2⟩ := h
  exact ⟨D, ⟨es, clock, (hf.block m (Array.getElem?_eq_some_iff.1 hb).1 hn).trans hb, r⟩, r2⟩
theorem Tab.made (w : World) : Tab P kt (w.alloc (.map #[] 0)) w.heap.size 0 (fun _ => none) :=
  ⟨.map [], World.ownsMap_made _ _ _ _, tidy_empty, fun _ _ => rfl, fun _ _ _ => rfl⟩
theorem key_i64 (hk : P.underlying kt = some (.int .i64)) {k : Int} (h : In64 k) : keyOf P kt (.int .i64 k) = some (.int .i64 k) := by
  refine keyOf_int_mk hk ?_
  unfold In64 at h
  unfold Lit.wf IntKind.min IntKind.max
  simp [IntKind.signed, IntKind.bits]
  omega
theorem Tab.put (h : Tab P kt w m n f) (hk : P.underlying kt = some (.int .i64)) {t e : TypeId} (ht : P.underlying t = some (.map kt e)) (hn : n < maxLen) (k : Int) (hK : In64 k) (v : Value) :
    ∃ w', (Instr.mapUpdate t (.map (some m)) (.int .i64 k) v).run P w = .ok () w' ∧ Tab P kt w' m (n + 1) (fun j => if j = k then some v else f j) ∧ Fr (At1 m) w w' := by
  obtain ⟨D, ho, hT, hh, ha⟩ := h
  obtain ⟨w', hrun, hown, hg⟩ := ho.update (int_keyed hk) ht hn (key_i64 hk hK) (show heldR v = some (.held v, []) from rfl)
  refine ⟨w', hrun, ⟨_, hown, hT.put (isKey_int k) _, fun j hj => ?_, fun j hj z => ?_⟩, ⟨hg.os, hg.tape, hg.output, hg.size, fun i hi hn => hg.block i hi (fun e => hn (by injection e with e))⟩⟩
  · by_cases e : j = k
    · subst e
      rw [has_put_same hT.isMap (isKey_int _)]
      simp
    · rw [has_put_other (fun e2 => e (by injection e2)), hh j hj]
      simp [e]
  · by_cases e : j = k
    · subst e
      rw [atKey_put_same hT.isMap (isKey_int _)]
      simp
    · rw [atKey_put_other (fun e2 => e (by injection e2)), ha j hj z]
      simp [e]
theorem Tab.look_ok (h : Tab P kt w m n f) (hk : P.underlying kt = some (.int .i64)) {t e : TypeId} (ht : P.underlying t = some (.map kt e)) {z : Value} (hz : (zeroValue e).run P w = .ok z w) (k : Int) (hK : In64 k) :
    (Instr.lookup t (.map (some m)) (.int .i64 k) true).run P w = .ok (.tuple #[(f k).getD z, .bool (f k).isSome]) w := by
  obtain ⟨D, ho, hT, hh, ha⟩ := h
  obtain ⟨v, ps, hrun, hv⟩ := ho.look_ok (int_keyed hk) ht hz (show heldR z = some (.held z, []) from rfl) (key_i64 hk hK)
  rw [hh k hK] at hrun
  rw [ha k hK] at hv
  cases hf : f k with
  | none =>
    rw [hf] at hrun hv
    injection hv with hv
    injection hv with hv _
    injection hv with hv
    rw [hrun, hv]
    rfl
  | some u =>
    rw [hf] at hrun hv
    injection hv with hv
    injection hv with hv _
    injection hv with hv
    rw [hrun, hv]
    rfl
theorem Tab.look (h : Tab P kt w m n f) (hk : P.underlying kt = some (.int .i64)) {t e : TypeId} (ht : P.underlying t = some (.map kt e)) {z : Value} (hz : (zeroValue e).run P w = .ok z w) (k : Int) (hK : In64 k) :
    (Instr.lookup t (.map (some m)) (.int .i64 k) false).run P w = .ok ((f k).getD z) w := by
  obtain ⟨D, ho, hT, hh, ha⟩ := h
  obtain ⟨v, ps, hrun, hv⟩ := ho.lookup (int_keyed hk) ht hz (show heldR z = some (.held z, []) from rfl) (key_i64 hk hK)
  rw [ha k hK] at hv
  cases hf : f k with
  | none =>
    rw [hf] at hv
    injection hv with hv
    injection hv with hv _
    injection hv with hv
    rw [hrun, hv]
    rfl
  | some u =>
    rw [hf] at hv
    injection hv with hv
    injection hv with hv _
    injection hv with hv
    rw [hrun, hv]
    rfl
theorem wpList_tab (w : World) {ops : Array Oper} {rest : List Oper} {o : Oper} {a : Act} {Q : Exit → Act → World → Prop} (hg : o.guard = none) (x y z : Operand) {t e : TypeId} (hop : o.op = Op.mapUpdate t x y z)
    (hx : a.eval x = .map (some m)) (h : Tab P kt w m n f) (hk : P.underlying kt = some (.int .i64)) (ht : P.underlying t = some (.map kt e)) (k : Int) (v : Value) (hy : a.eval y = .int .i64 k) (hz : a.eval z = v) (hK : In64 k) (hl : n < maxLen)
    (hC : ∀ w', Tab P kt w' m (n + 1) (fun j => if j = k then some v else f j) → Fr (At1 m) w w' → wpList P ops Q rest (a.put o.dst undef) w') : wpList P ops Q (o :: rest) a w := by
  refine wpList_plain hg fun K' hK' => ?_
  obtain ⟨w', hrun, r1, r2⟩ := h.put hk ht hl k hK v
  unfold Oper.wp
  simp [execOp, hop, hx, hy, hz, hrun, Result.andThen]
  exact hK' _ _ (hC w' r1 r2)
end
end Go.My
