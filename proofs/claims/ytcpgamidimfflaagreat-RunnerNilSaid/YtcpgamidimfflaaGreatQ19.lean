/- Maps from texts to values of any kind (rows, structs) that the call makes: of no program. Maps from pairs of ints (Insts, Ids) to values of any kind: their keys as a list, their values as a function. insts.Sorted: what a map's keys are, in order. The runner's empty values. (*Runner).knows. (*Runner).Known, Waits. -/
import Derived.Test.YtcpgamidimfflaaGreatQ10
import Derived.Test.YtcpgamidimfflaaGreatQ17
import Derived.Test.YtcpgamidimfflaaGreatQ05
import Derived.Test.YtcpgamidimfflaaGreatQ18
import Derived.Deep.RegionHeld3
import Derived.Deep.DrawnRows
namespace Go.My
open Go Go.RowKit Go.Maps
set_option linter.unusedSimpArgs false
set_option linter.unusedVariables false
theorem isKey_txt (k : List UInt8) : WideAt.IsKeyLit (.string k) := by unfold WideAt.IsKeyLit; exact True.intro
def TabS (P : Program) (kt : TypeId) (w : World) (m c : Nat) (f : List UInt8 → Option Value) : Prop :=
  ∃ D : DataW Value, w.ownsMap P kt heldR m c D ∧ Maps.size D = c ∧ Tidy D ∧ (∀ k, Maps.has D (.string k) = (f k).isSome) ∧ ∀ k z, D.atKey (.string k) z = match f k with | some v => .held v | none => z
section
variable {P : Program} {kt : TypeId} {w w' : World} {m c : Nat} {f : List UInt8 → Option Value}
theorem ownsMap_len {H : Type} {R : Value → Option (DataW H × List MemPlace)} {n : Nat} {D : DataW H} (h : w.ownsMap P kt R m n D) : w.ownsMap P kt R m (Maps.size D) D := by
  obtain ⟨es, clock, hb, F, hs, hD⟩ := h
  refine ⟨es, clock, hb, F, ?_, hD⟩
  rw [hD, Maps.size_eq, length_sorted, List.length_map]
  simp
theorem TabS.lt (h : TabS P kt w m c f) : m < w.heap.size := by obtain ⟨D, h, _⟩ := h; exact h.lt
theorem TabS.fr {F : Nat → Prop} (h : TabS P kt w m c f) (hf : Fr F w w') (hn : ¬ F m) : TabS P kt w' m c f := by
  obtain ⟨D, ⟨es, clock, hb, r⟩, r2⟩ := h
  exact ⟨D, ⟨es, clock, (hf.block m (Array.getElem?_eq_some_iff.1 hb).1 hn).trans hb, r⟩, r2⟩
theorem TabS.ne_ {g : Nat} {t : TypeId} {cs : Array Value} (h : TabS P kt w m c f) (hg : Blk w g t cs) : m ≠ g := by
  rintro rfl
  obtain ⟨D, ⟨es, clock, hb, _⟩, _⟩ := h
  unfold Blk at hg
  rw [hb] at hg
  cases hg
theorem TabS.made (w : World) : TabS P kt (w.alloc (.map #[] 0)) w.heap.size 0 (fun _ => none) :=
  ⟨.map [], World.ownsMap_made _ _ _ _, rfl, tidy_empty, fun _ => rfl, fun _ _ => rfl⟩
theorem keyS (hk : P.underlying kt = some .string) {s : ByteArray} (h : s.size ≤ maxLen) : keyOf P kt (.string s) = some (.string s.data.toList) := Go.WideMaps.keyOf_string_mk hk h
def cnt (f : List UInt8 → Option Value) (c : Nat) (k : List UInt8) : Nat := if (f k).isSome then c else c + 1
def upd (f : List UInt8 → Option Value) (k : List UInt8) (v : Value) : List UInt8 → Option Value := fun j => if j = k then some v else f j
theorem TabS.put (h : TabS P kt w m c f) (hk : P.underlying kt = some .string) {t e : TypeId} (ht : P.underlying t = some (.map kt e)) (hn : c < maxLen) (s : ByteArray) (hs : s.size ≤ maxLen) (v : Value) :
    ∃ w', (Instr.mapUpdate t (.map (some m)) (.string s) v).run P w = .ok () w' ∧ TabS P kt w' m (cnt f c s.data.toList) (upd f s.data.toList v) ∧ Fr (At1 m) w w' := by
  obtain ⟨D, ho, hz, hT, hh, ha⟩ := h
  obtain ⟨w', hrun, hown, hg⟩ := ho.update (string_keyed hk) ht hn (keyS hk hs) (show heldR v = some (.held v, []) from rfl)
  generalize s.data.toList = k at *
  have hsz : Maps.size (D.put (.string k) (.held v)) = cnt f c k := by
    unfold cnt
    rw [size_put hT (.held v), hh k, hz]
  refine ⟨w', hrun, ⟨_, ?_, hsz, hT.put (isKey_txt k) _, fun j => ?_, fun j z => ?_⟩, ⟨hg.os, hg.tape, hg.output, hg.size, fun i hi hn => hg.block i hi (fun e => hn (by injection e with e))⟩⟩
  · rw [← hsz]
    exact ownsMap_len hown
  · unfold upd
    by_cases e : j = k
    · subst e
      rw [has_put_same hT.isMap (isKey_txt _)]
      simp
    · rw [has_put_other (fun e2 => e (by injection e2)), hh j]
      simp [e]
  · unfold upd
    by_cases e : j = k
    · subst e
      rw [atKey_put_same hT.isMap (isKey_txt _)]
      simp
    · rw [atKey_put_other (fun e2 => e (by injection e2)), ha j z]
      simp [e]
theorem TabS.look_ok (h : TabS P kt w m c f) (hk : P.underlying kt = some .string) {t e : TypeId} (ht : P.underlying t = some (.map kt e)) {z : Value} (hz : (zeroValue e).run P w = .ok z w) (s : ByteArray) (hs : s.size ≤ maxLen) :
    (Instr.lookup t (.map (some m)) (.string s) true).run P w = .ok (.tuple #[(f s.data.toList).getD z, .bool (f s.data.toList).isSome]) w := by
  obtain ⟨D, ho, _, hT, hh, ha⟩ := h
  obtain ⟨v, ps, hrun, hv⟩ := ho.look_ok (string_keyed hk) ht hz (show heldR z = some (.held z, []) from rfl) (keyS hk hs)
  rw [hh] at hrun
  rw [ha] at hv
  cases hf : f s.data.toList with
  | none =>
    rw [hf] at hrun hv
    injection hv with hv
    injection hv with hv _
    injection hv with hv
    rw [hrun, hv]
    rfl
  | some u =>
    rw [hf] at hrun hv
    injection hv with hv
    injection hv with hv _
    injection hv with hv
    rw [hrun, hv]
    rfl
theorem TabS.look (h : TabS P kt w m c f) (hk : P.underlying kt = some .string) {t e : TypeId} (ht : P.underlying t = some (.map kt e)) {z : Value} (hz : (zeroValue e).run P w = .ok z w) (s : ByteArray) (hs : s.size ≤ maxLen) :
    (Instr.lookup t (.map (some m)) (.string s) false).run P w = .ok ((f s.data.toList).getD z) w := by
  obtain ⟨D, ho, _, hT, hh, ha⟩ := h
  obtain ⟨v, ps, hrun, hv⟩ := ho.lookup (string_keyed hk) ht hz (show heldR z = some (.held z, []) from rfl) (keyS hk hs)
  rw [ha] at hv
  cases hf : f s.data.toList with
  | none =>
    rw [hf] at hv
    injection hv with hv
    injection hv with hv _
    injection hv with hv
    rw [hrun, hv]
    rfl
  | some u =>
    rw [hf] at hv
    injection hv with hv
    injection hv with hv _
    injection hv with hv
    rw [hrun, hv]
    rfl
theorem TabS.len (h : TabS P kt w m c f) {t e : TypeId} (ht : P.underlying t = some (.map kt e)) (ty : TypeId) : (Builtin.len_ #[t] ty #[.map (some m)]).run P w = .ok (.int .i64 (c : Int)) w := by
  obtain ⟨D, ho, hz, _⟩ := h
  have := ho.len ht ty
  rwa [hz] at this
end
end Go.My
namespace Go.My
open Go Go.RowKit Go.Maps Go.WideMaps
set_option linter.unusedSimpArgs false
set_option linter.unusedVariables false
structure KeyI (P : Program) (kt : TypeId) : Prop where
  keyed : Keyed P kt
  inj : KiInj
  of : ∀ a : Idk, IdOk a → keyOf P kt (.agg #[.int .i64 a.1, .int .i64 a.2]) = some (ki a)
  inv : ∀ (v : Value) (l : Lit), keyOf P kt v = some l → ∃ a : Idk, v = .agg #[.int .i64 a.1, .int .i64 a.2] ∧ IdOk a ∧ l = ki a
structure TabI (P : Program) (kt : TypeId) (w : World) (m : Nat) (L : List Idk) (f : Idk → Option Value) : Prop where
  own : ∃ D : DataW Value, w.ownsMap P kt heldR m L.length D ∧ Maps.size D = L.length ∧ Tidy D ∧ (∀ k, IdOk k → Maps.has D (ki k) = (f k).isSome) ∧ ∀ k, IdOk k → ∀ z, D.atKey (ki k) z = match f k with | some v => .held v | none => z
  nd : L.Nodup
  ok : ∀ k ∈ L, IdOk k
  mem : ∀ k, k ∈ L ↔ (f k).isSome = true
def addK (L : List Idk) (k : Idk) : List Idk := if k ∈ L then L else L ++ [k]
def updI (f : Idk → Option Value) (k : Idk) (v : Value) : Idk → Option Value := fun j => if j = k then some v else f j
theorem addK_mem (L : List Idk) (k j : Idk) : j ∈ addK L k ↔ j = k ∨ j ∈ L := by
  unfold addK
  by_cases h : k ∈ L
  · rw [if_pos h]
    exact ⟨.inr, fun e => e.elim (fun e => e ▸ h) id⟩
  · rw [if_neg h, List.mem_append, List.mem_singleton]
    exact or_comm
theorem addK_nodup {L : List Idk} (h : L.Nodup) (k : Idk) : (addK L k).Nodup := by
  unfold addK
  by_cases e : k ∈ L
  · rw [if_pos e]; exact h
  · rw [if_neg e]
    refine List.nodup_append.2 ⟨h, by simp, ?_⟩
    intro x hx y hy he
    rw [List.mem_singleton] at hy
    subst hy he
    exact e hx
section
variable {P : Program} {kt : TypeId} {w w' : World} {m : Nat} {L : List Idk} {f : Idk → Option Value}
theorem TabI.lt (h : TabI P kt w m L f) : m < w.heap.size := by obtain ⟨D, h, _⟩ := h.own; exact h.lt
theorem TabI.fr {F : Nat → Prop} (h : TabI P kt w m L f) (hf : Fr F w w') (hn : ¬ F m) : TabI P kt w' m L f := by
  obtain ⟨D, ⟨es, clock, hb, r⟩, r2⟩ := h.own
  exact ⟨⟨D, ⟨es, clock, (hf.block m (Array.getElem?_eq_some_iff.1 hb).1 hn).trans hb, r⟩, r2⟩, h.nd, h.ok, h.mem⟩
theorem TabI.ne_ {g : Nat} {t : TypeId} {cs : Array Value} (h : TabI P kt w m L f) (hg : Blk w g t cs) : m ≠ g := by
  rintro rfl
  obtain ⟨D, ⟨es, clock, hb, _⟩, _⟩ := h.own
  unfold Blk at hg
  rw [hb] at hg
  cases hg
theorem TabI.made (w : World) : TabI P kt (w.alloc (.map #[] 0)) w.heap.size [] (fun _ => none) :=
  ⟨⟨.map [], World.ownsMap_made _ _ _ _, rfl, tidy_empty, fun _ _ => rfl, fun _ _ _ => rfl⟩, List.nodup_nil, fun k h => (by cases h), fun k => ⟨fun h => (by cases h), fun h => (by cases h)⟩⟩
theorem TabI.put (h : TabI P kt w m L f) (hk : KeyI P kt) {t e : TypeId} (ht : P.underlying t = some (.map kt e)) (hn : L.length < maxLen) (k : Idk) (hkk : IdOk k) (v : Value) :
    ∃ w', (Instr.mapUpdate t (.map (some m)) (.agg #[.int .i64 k.1, .int .i64 k.2]) v).run P w = .ok () w' ∧ TabI P kt w' m (addK L k) (updI f k v) ∧ Fr (At1 m) w w' := by
  obtain ⟨D, ho, hz, hT, hh, ha⟩ := h.own
  obtain ⟨w', hrun, hown, hg⟩ := ho.update hk.keyed ht hn (hk.of k hkk) (show heldR v = some (.held v, []) from rfl)
  have hsz : Maps.size (D.put (ki k) (.held v)) = (addK L k).length := by
    rw [size_put hT (.held v), hh k hkk, hz]
    unfold addK
    by_cases e : k ∈ L
    · rw [if_pos e, if_pos ((h.mem k).1 e)]
    · have e2 : (f k).isSome = false := by
        cases e3 : (f k).isSome with
        | false => rfl
        | true => exact absurd ((h.mem k).2 e3) e
      rw [if_neg e, e2, List.length_append]
      rfl
  refine ⟨w', hrun, ⟨⟨_, ?_, hsz, hT.put (isKey_ki k) _, fun j hj => ?_, fun j hj z => ?_⟩, addK_nodup h.nd k, fun j hj => ?_, fun j => ?_⟩, ⟨hg.os, hg.tape, hg.output, hg.size, fun i hi hn => hg.block i hi (fun e => hn (by injection e with e))⟩⟩
  · rw [← hsz]
    exact ownsMap_len hown
  · unfold updI
    by_cases e : j = k
    · subst e
      rw [has_put_same hT.isMap (isKey_ki _)]
      simp
    · rw [has_put_other (fun e2 => e (hk.inj _ _ hj hkk e2)), hh j hj]
      simp [e]
  · unfold updI
    by_cases e : j = k
    · subst e
      rw [atKey_put_same hT.isMap (isKey_ki _)]
      simp
    · rw [atKey_put_other (fun e2 => e (hk.inj _ _ hj hkk e2)), ha j hj z]
      simp [e]
  · rcases (addK_mem L k j).1 hj with rfl | hj
    · exact hkk
    · exact h.ok j hj
  · rw [addK_mem, h.mem]
    unfold updI
    by_cases e : j = k
    · subst e; simp
    · simp [e]
theorem TabI.look_ok (h : TabI P kt w m L f) (hk : KeyI P kt) {t e : TypeId} (ht : P.underlying t = some (.map kt e)) {z : Value} (hz : (zeroValue e).run P w = .ok z w) (k : Idk) (hkk : IdOk k) :
    (Instr.lookup t (.map (some m)) (.agg #[.int .i64 k.1, .int .i64 k.2]) true).run P w = .ok (.tuple #[(f k).getD z, .bool (f k).isSome]) w := by
  obtain ⟨D, ho, _, hT, hh, ha⟩ := h.own
  obtain ⟨v, ps, hrun, hv⟩ := ho.look_ok hk.keyed ht hz (show heldR z = some (.held z, []) from rfl) (hk.of k hkk)
  rw [hh k hkk] at hrun
  rw [ha k hkk] at hv
  cases hf : f k with
  | none =>
    rw [hf] at hrun hv
    injection hv with hv
    injection hv with hv _
    injection hv with hv
    rw [hrun, hv]
    rfl
  | some u =>
    rw [hf] at hrun hv
    injection hv with hv
    injection hv with hv _
    injection hv with hv
    rw [hrun, hv]
    rfl
theorem TabI.look (h : TabI P kt w m L f) (hk : KeyI P kt) {t e : TypeId} (ht : P.underlying t = some (.map kt e)) {z : Value} (hz : (zeroValue e).run P w = .ok z w) (k : Idk) (hkk : IdOk k) :
    (Instr.lookup t (.map (some m)) (.agg #[.int .i64 k.1, .int .i64 k.2]) false).run P w = .ok ((f k).getD z) w := by
  obtain ⟨D, ho, _, hT, hh, ha⟩ := h.own
  obtain ⟨v, ps, hrun, hv⟩ := ho.lookup hk.keyed ht hz (show heldR z = some (.held z, []) from rfl) (hk.of k hkk)
  rw [ha k hkk] at hv
  cases hf : f k with
  | none =>
    rw [hf] at hv
    injection hv with hv
    injection hv with hv _
    injection hv with hv
    rw [hrun, hv]
    rfl
  | some u =>
    rw [hf] at hv
    injection hv with hv
    injection hv with hv _
    injection hv with hv
    rw [hrun, hv]
    rfl
theorem TabI.len (h : TabI P kt w m L f) {t e : TypeId} (ht : P.underlying t = some (.map kt e)) (ty : TypeId) : (Builtin.len_ #[t] ty #[.map (some m)]).run P w = .ok (.int .i64 (L.length : Int)) w := by
  obtain ⟨D, ho, hz, _⟩ := h.own
  have := ho.len ht ty
  rwa [hz] at this
theorem fr_grownT {w w' : World} {r : Nat} (h : w.grownBy w' (some r)) : Fr (At1 r) w w' := ⟨h.os, h.tape, h.output, h.size, fun k hk hn => h.block k hk (fun e => hn (by injection e))⟩
theorem fr_grownT0 {w w' : World} (h : w.grownBy w' none) : Fr No w w' := ⟨h.os, h.tape, h.output, h.size, fun k hk _ => h.block k hk (fun e => by cases e)⟩
def cutK (L : List Idk) (k : Idk) : List Idk := L.filter fun j => decide (j ≠ k)
def delI (f : Idk → Option Value) (k : Idk) : Idk → Option Value := fun j => if j = k then none else f j
theorem cutK_mem (L : List Idk) (k j : Idk) : j ∈ cutK L k ↔ j ∈ L ∧ j ≠ k := by
  unfold cutK
  rw [List.mem_filter, decide_eq_true_iff]
theorem cutK_size {L : List Idk} (h : L.Nodup) (k : Idk) : (cutK L k).length + (if k ∈ L then 1 else 0) = L.length := by
  induction L with
  | nil => rfl
  | cons a L ih =>
    obtain ⟨h1, h2⟩ := List.nodup_cons.1 h
    have := ih h2
    unfold cutK at this ⊢
    by_cases e : a = k
    · subst e
      rw [List.filter_cons_of_neg (by simp), if_pos (List.mem_cons_self ..), List.length_cons]
      rw [if_neg h1] at this
      omega
    · rw [List.filter_cons_of_pos (by simpa using e), List.length_cons, List.length_cons]
      by_cases e2 : k ∈ L
      · rw [if_pos (List.mem_cons_of_mem _ e2)]
        rw [if_pos e2] at this
        omega
      · rw [if_neg (fun h => (List.mem_cons.1 h).elim (fun h => e h.symm) e2)]
        rw [if_neg e2] at this
        omega
theorem TabI.drop (h : TabI P kt w m L f) (hk : KeyI P kt) {t e : TypeId} (ht : P.underlying t = some (.map kt e)) (k : Idk) (hkk : IdOk k) (ty : TypeId) :
    ∃ w', (Builtin.delete_ #[t, kt] ty #[.map (some m), .agg #[.int .i64 k.1, .int .i64 k.2]]).run P w = .ok (.tuple #[]) w' ∧ TabI P kt w' m (cutK L k) (delI f k) ∧ Fr (At1 m) w w' := by
  obtain ⟨D, ho, hz, hT, hh, ha⟩ := h.own
  obtain ⟨w', hrun, hown, ht'⟩ := ho.drop hk.keyed ht (hk.of k hkk) ty
  have hsz : Maps.size (D.del (ki k)) = (cutK L k).length := by
    have h1 := size_del (k := ki k) hT
    have h2 := cutK_size h.nd k
    rw [hh k hkk, hz] at h1
    by_cases e : k ∈ L
    · rw [if_pos e] at h2
      rw [if_pos ((h.mem k).1 e)] at h1
      omega
    · rw [if_neg e] at h2
      rw [if_neg (fun e3 => e ((h.mem k).2 e3))] at h1
      omega
  refine ⟨w', hrun, ⟨⟨_, ?_, hsz, hT.del _, fun j hj => ?_, fun j hj z => ?_⟩, h.nd.filter _, fun j hj => h.ok j ((cutK_mem L k j).1 hj).1, fun j => ?_⟩, fr_grownT ht'.grown⟩
  · rw [← hsz]
    exact ownsMap_len hown
  · unfold delI
    by_cases e : j = k
    · subst e
      rw [has_del_same]
      simp
    · rw [has_del_other (fun e2 => e (hk.inj _ _ hj hkk e2)), hh j hj]
      simp [e]
  · unfold delI
    by_cases e : j = k
    · subst e
      rw [atKey_del_same]
      simp
    · rw [atKey_del_other (fun e2 => e (hk.inj _ _ hj hkk e2)), ha j hj z]
      simp [e]
  · rw [cutK_mem, h.mem]
    unfold delI
    by_cases e : j = k
    · subst e; simp
    · simp [e]
theorem wpList_putK {w : World} {ops : Array Oper} {rest : List Oper} {o : Oper} {a : Act} {Q : Exit → Act → World → Prop} (hg : o.guard = none) (x y z : Operand) (t e : TypeId) (hop : o.op = Op.mapUpdate t x y z) (hk : KeyI P kt) (ht : P.underlying t = some (.map kt e))
    {b : Nat} (hx : a.eval x = .map (some b)) (h : TabI P kt w b L f) (k : Idk) (hkk : IdOk k) (v : Value) (hy : a.eval y = .agg #[.int .i64 k.1, .int .i64 k.2]) (hz : a.eval z = v) (hl : L.length < maxLen)
    (hK : ∀ w', TabI P kt w' b (addK L k) (updI f k v) → Fr (At1 b) w w' → wpList P ops Q rest (a.put o.dst undef) w') : wpList P ops Q (o :: rest) a w := by
  refine wpList_plain hg fun K' hK' => ?_
  obtain ⟨w', hrun, r1, r2⟩ := h.put hk ht hl k hkk v
  unfold Oper.wp
  simp [execOp, hop, hx, hy, hz, hrun, Result.andThen]
  exact hK' _ _ (hK w' r1 r2)
structure RngI (P : Program) (kt : TypeId) (w : World) (m r : Nat) (L : List Idk) (f : Idk → Option Value) (acc : List Idk) (cnt : Nat) : Prop where
  rg : ∃ (D : DataW Value) (left : Lit → Bool), w.ranges P kt heldR m r L.length D left cnt ∧ (∀ k, IdOk k → ∀ z, D.atKey (ki k) z = match f k with | some v => .held v | none => z) ∧ ∀ k, IdOk k → left (ki k) = decide (k ∈ L ∧ k ∉ acc)
  tab : TabI P kt w m L f
  nd : acc.Nodup
  sub : ∀ k ∈ acc, k ∈ L
theorem RngI.fr {F : Nat → Prop} {r cnt : Nat} {acc : List Idk} (h : RngI P kt w m r L f acc cnt) (hf : Fr F w w') (hn : ¬ F m) (hr : ¬ F r) : RngI P kt w' m r L f acc cnt := by
  obtain ⟨D, left, ⟨es, clock, since, seen, c0, hb, h1, h2, h3, hb2, h4⟩, h5⟩ := h.rg
  exact ⟨⟨D, left, ⟨es, clock, since, seen, c0, (hf.block m (Array.getElem?_eq_some_iff.1 hb).1 hn).trans hb, h1, h2, h3, (hf.block r (Array.getElem?_eq_some_iff.1 hb2).1 hr).trans hb2, h4⟩, h5⟩, h.tab.fr hf hn, h.nd, h.sub⟩
theorem RngI.left_eq {r cnt : Nat} {acc : List Idk} (h : RngI P kt w m r L f acc cnt) : w.rangeLeft m r = cnt := by
  obtain ⟨D, left, h, _⟩ := h.rg
  exact h.left_eq
theorem RngI.lt {r cnt : Nat} {acc : List Idk} (h : RngI P kt w m r L f acc cnt) : r < w.heap.size := by
  obtain ⟨D, left, h, _⟩ := h.rg
  exact h.lt
theorem RngI.ne {r cnt : Nat} {acc : List Idk} (h : RngI P kt w m r L f acc cnt) : r ≠ m := by
  obtain ⟨D, left, h, _⟩ := h.rg
  exact h.ne
theorem RngI.ne_ {r cnt g : Nat} {t : TypeId} {cs : Array Value} {acc : List Idk} (h : RngI P kt w m r L f acc cnt) (hg : Blk w g t cs) : r ≠ g := by
  rintro rfl
  obtain ⟨D, left, ⟨es, clock, since, seen, c0, hb, h1, h2, h3, hb2, h4⟩, h5⟩ := h.rg
  unfold Blk at hg
  rw [hb2] at hg
  cases hg
theorem wpList_rangeI {w : World} {ops : Array Oper} {rest : List Oper} {o : Oper} {a : Act} {Q : Exit → Act → World → Prop} (hg : o.guard = none) (x : Operand) (t e : TypeId) (hop : o.op = Op.range t x) (hk : KeyI P kt) (ht : P.underlying t = some (.map kt e))
    {b : Nat} (hx : a.eval x = .map (some b)) (h : TabI P kt w b L f)
    (hK : ∀ w', RngI P kt w' b w.heap.size L f [] L.length → Fr No w w' → wpList P ops Q rest (a.put o.dst (.pointer (some ⟨w.heap.size, 0, none⟩))) w') : wpList P ops Q (o :: rest) a w := by
  obtain ⟨D, ho, hz, hT, hh, ha⟩ := h.own
  refine wpList_range_own w hg x t hop kt e hk.keyed ht heldR b L.length D hx ho fun w' h1 h2 h3 => ?_
  rw [hz] at h1
  have hf := fr_grownT0 h2
  refine hK w' ⟨⟨D, _, h1, ha, fun k hkk => ?_⟩, h.fr hf (fun h => h), List.nodup_nil, fun k h => by cases h⟩ hf
  rw [hh k hkk]
  cases e : (f k).isSome with
  | true => exact (decide_eq_true ⟨(h.mem k).2 e, fun h => by cases h⟩).symm
  | false => exact (decide_eq_false fun h2 => by rw [(h.mem k).1 h2.1] at e; cases e).symm
theorem wpList_nextI {w : World} {ops : Array Oper} {rest : List Oper} {o : Oper} {a : Act} {Q : Exit → Act → World → Prop} (hg : o.guard = none) (it : Operand) (hop : o.op = Op.next it false) (hk : KeyI P kt)
    {b r cnt : Nat} {acc : List Idk} (hit : a.eval it = .pointer (some ⟨r, 0, none⟩)) (h : RngI P kt w b r L f acc cnt)
    (hDone : acc.Perm L → wpList P ops Q rest (a.put o.dst (.tuple #[.bool false])) w)
    (hMore : ∀ (k : Idk) (v : Value) (w' : World) (cnt' : Nat), IdOk k → k ∈ L → k ∉ acc → f k = some v → RngI P kt w' b r L f (acc ++ [k]) cnt' → cnt' < cnt → Fr (At1 r) w w' → w'.heap.size = w.heap.size →
      (Instr.entry (.pointer (some ⟨r, 0, none⟩))).run P w' = .ok (.tuple #[.agg #[.int .i64 k.1, .int .i64 k.2], v]) w' → wpList P ops Q rest (a.put o.dst (.tuple #[.bool true, .agg #[.int .i64 k.1, .int .i64 k.2], v])) w') :
    wpList P ops Q (o :: rest) a w := by
  obtain ⟨D, left, hr, ha, hl⟩ := h.rg
  refine wpList_next_ranges w hg it hop kt hk.keyed heldR (fun k : Idk => .agg #[.int .i64 k.1, .int .i64 k.2]) (fun v : Value => v) (fun key kl e => (hk.inv key kl e).imp fun _ h => h.1) (fun v y _ => ⟨v, rfl⟩) b r L.length D left cnt hit hr (fun _ h2 => hDone ?_) fun k v kl y w' cnt' hkey hlk hv hat hrg hlt hgr hsz hen => ?_
  · refine (List.perm_ext_iff_of_nodup h.nd h.tab.nd).2 fun k => ⟨h.sub k, fun hk2 => ?_⟩
    have := h2 (ki k)
    rw [hl k (h.tab.ok k hk2)] at this
    exact Classical.byContradiction fun hn => of_decide_eq_false this ⟨hk2, hn⟩
  · obtain ⟨k2, e1, hkk, rfl⟩ := hk.inv _ _ hkey
    have e2 : k2 = k := by
      injection e1 with e1
      injection e1 with e1
      injection e1 with e3 e1
      injection e1 with e4 _
      injection e3 with _ e3
      injection e4 with _ e4
      exact (Prod.ext e3 e4).symm
    subst e2
    have e5 := hl k2 hkk
    rw [hlk] at e5
    obtain ⟨h6, h7⟩ := of_decide_eq_true e5.symm
    have hf := fr_grownT hgr
    have hne := hr.ne
    injection hv with hv
    subst hv
    have e8 := hat .nil
    rw [ha k2 hkk] at e8
    have e9 : f k2 = some v := by
      cases e : f k2 with
      | none => rw [e] at e8; cases e8
      | some u =>
        rw [e] at e8
        injection e8 with e8
        rw [e8]
    refine hMore k2 v w' cnt' hkk h6 h7 e9 ⟨⟨D, _, hrg, ha, fun j hj => ?_⟩, h.tab.fr hf (fun e => hne e.symm), List.nodup_append.2 ⟨h.nd, by simp, ?_⟩, fun j hj => ?_⟩ hlt hf hsz hen
    · show (left (ki j) && !(ki j).sameKey (ki k2)) = _
      rw [hl j hj]
      by_cases e : j = k2
      · subst e
        rw [WideAt.sameKey_self (isKey_ki _)]
        simp
      · rw [sameKey_ne (fun e2 => e (hk.inj _ _ hj hkk e2))]
        simp [e]
    · intro x hx y hy he
      rw [List.mem_singleton] at hy
      subst hy he
      exact h7 hx
    · rcases List.mem_append.1 hj with hj | hj
      · exact h.sub j hj
      · rw [List.mem_singleton] at hj
        exact hj ▸ h6
end
end Go.My
namespace Go.Proofs.YtcpgamidimfflaaGreat
open Go.RowKit Go.My Go.Maps Go.WideMaps
set_option linter.unusedSimpArgs false
set_option linter.unusedVariables false
theorem rowIn : (30 : TypeId) < Tryz.prog.types.size := of_decide_eq_true (by kernel_rfl)
theorem lawIn : KeyLaw Tryz.prog 30 := deep_law_laid laidI (m := 3) (by omega) rowIn (by kernel_rfl) (by rw [Tryz.underlying30])
theorem keyedIn : Keyed Tryz.prog 30 := Keyed.of_law lawIn
theorem inKey : ∃ f0 f1, IdKey Tryz.prog 30 f0 f1 := ⟨_, _, {
  under := Tryz.underlying30
  o0 := rfl
  o1 := rfl
  n0 := by decide
  n1 := by decide
  cells := by kernel_rfl
  c0 := by kernel_rfl
  c1 := by kernel_rfl
  int0 := Tryz.underlying3
  int1 := Tryz.underlying3
  key := by kernel_rfl
  size := of_decide_eq_true (by kernel_rfl) }⟩
theorem keyIn : KeyI Tryz.prog 30 := ⟨keyedIn, kiInj, fun a ha => by obtain ⟨f0, f1, hp⟩ := inKey; exact hp.of ha, fun v l h => by obtain ⟨f0, f1, hp⟩ := inKey; exact hp.inv h⟩
theorem keyId : KeyI Tryz.prog 32 := ⟨keyedI, kiInj, fun a ha => key_id ha, fun v l h => by obtain ⟨f0, f1, hp⟩ := idKey; exact hp.inv h⟩
end Go.Proofs.YtcpgamidimfflaaGreat
namespace Go.Proofs.YtcpgamidimfflaaGreat
open Go.RowKit Go.My Go.Maps
set_option linter.unusedSimpArgs false
set_option linter.unusedVariables false
attribute [local go_sem ↓] Go.wp_at_zero Go.wp_at_succ
def SrtRel (w : World) (m r : Nat) (L : List Idk) (f : Idk → Option Value) (lv : Value) (wr : World) : Prop :=
  ∃ (acc : List Idk) (cnt : Nat), RngI Tryz.prog 30 wr m r L f acc cnt ∧ Own wr 30 2 lv acc.length (ins2 acc) ∧ Fr No w wr ∧ Newer w.heap.size none lv.ownBlock
theorem acc_le {acc L : List Idk} (h : acc.Nodup) (hL : L.Nodup) (hs : ∀ k ∈ acc, k ∈ L) : acc.length ≤ L.length := by
  have h1 : acc.Perm (L.filter fun k => decide (k ∈ acc)) := (List.perm_ext_iff_of_nodup h (hL.filter _)).2 fun k => by
    rw [List.mem_filter, decide_eq_true_iff]
    exact ⟨fun hk => ⟨hs k hk, hk⟩, fun hk => hk.2⟩
  rw [h1.length_eq]
  exact List.length_filter_le _ _
theorem own_ne_rangeI {P : Program} {kt : TypeId} {b r n : Nat} {L acc : List Idk} {f : Idk → Option Value} {cnt : Nat} {w : World} {t : TypeId} {sz : Nat} {v : Value} {xs : List Value} (ho : Own w t sz v n xs) (h : RngI P kt w b r L f acc cnt) : ∀ k, v.ownBlock = some k → r ≠ k ∧ b ≠ k := fun k hk => by
  obtain ⟨cur, hcur⟩ := ho.blk k hk
  exact ⟨h.ne_ hcur, h.tab.ne_ hcur⟩
set_option maxRecDepth 100000 in
set_option maxHeartbeats 1000000 in
theorem sortedE_any (m : Nat) (L : List Idk) (f : Idk → Option Value) (w : World) (h : TabI Tryz.prog 30 w m L f) (hl : L.length < 1000000) :
    Calls Tryz.prog 62 #[.map (some m)] w fun e w' => ∃ v L', e = .returned v ∧ L'.Perm L ∧ (L'.Pairwise fun a b => aheadI b a = false) ∧ Own w' 30 2 v L.length (ins2 L') ∧ Newer w.heap.size none v.ownBlock ∧ Fr No w w' := by
  have HM := Lib.hid h
  clear h
  go_enter Tryz.func62, Tryz.ntmps62
  go_wp2_with (at_range; refine wpList_rangeI rfl (.tmp 5) 88 38 rfl keyIn Tryz.underlying88 rfl HM.out ?_; intro w0 hrg0 hf0)
  go_frame
  go_loopw [3] (fun lv wr => SrtRel w m w.heap.size L f lv wr) (fun _ wr => wr.rangeLeft m w.heap.size)
  case atStart => exact ⟨[], _, hrg0, Own.nil _ _ _, hf0, .inl rfl⟩
  case round =>
    obtain ⟨acc, cnt, hrg, hown, hfr, hnew⟩ := hrel
    have HRG := Lib.hid hrg
    have HOWN := Lib.hid hown
    have HFR := Lib.hid hfr
    have HNEW := Lib.hid hnew
    have HNE := Lib.hid (own_ne_rangeI hown hrg)
    clear hrg hown hfr hnew
    go_wp2_with (at_next; refine wpList_nextI rfl (.tmp 6) rfl keyIn rfl HRG.out ?_ ?_)
    · intro hp
      have hlen := hp.length_eq
      have ho := HOWN.out
      have h4 := Lib.hid (sortIn_any acc _ _ HOWN.out (by omega))
      go_wp2_with fail
      refine h4.out.mono ?_
      rintro e w5 ⟨rfl, L', p1, p2, p3, p4⟩
      go_wp2
      go_ret
      exact ⟨_, L', rfl, p1.trans hp, p2, hlen ▸ p3, HNEW.out, fr_no HFR.out HNEW.out p4⟩
    · intro k0 k v w1 cnt1 hk1 hk2 hk3 hk4 hrg1 hlt hf1 hs1 hen
      have HRG1 := Lib.hid hrg1
      have HF1 := Lib.hid hf1
      have HLT := Lib.hid hlt
      have HO1 := Lib.hid (HOWN.out.fr hf1 (fun k hk e => (HNE.out k hk).1 e.symm))
      have hX : Hid (acc.length + 1 ≤ L.length) := by
        have := acc_le hrg1.nd hrg1.tab.nd hrg1.sub
        rw [List.length_append] at this
        exact this
      have HS1 := Lib.hid hs1
      have HNB : Hid (∀ (W : World) o cs, ((W.alloc o).alloc (.cells cs 30)).heap[W.heap.size + 1]? = some (.cells cs 30 (0, 0))) := Lib.hid fun W o cs => by
        have := heap_alloc_new (W.alloc o) (.cells cs 30)
        rw [World.size_alloc] at this
        exact this
      clear hk1 hk2 hk3 hk4 hrg1 hlt hf1 hs1
      go_wp2_with (at_builtin; refine wpList_app _ rfl (.tmp 11) (.tmp 13) 36 36 rfl elIn ((HO1.out.alloc _).alloc _) rfl (Src.of_new (w1.heap.size + 1) (HNB.out _ _ _) Tryz.underlying36 rfl (by simp [Value.oneCell'])) rfl (by have := hX.out; unfold maxLen; omega) (by have := hX.out; omega) ?_; intro v1 w3 hown3 hfr3 hnew3)
      have HF3 := Lib.hid (Fr.trans (((Fr.refl _ _).alloc _).alloc _) hfr3)
      have HO3 := Lib.hid hown3
      have HN3 := Lib.hid hnew3
      clear hown3 hfr3 hnew3
      have HRG3 := Lib.hid (HRG1.out.fr HF3.out (fun e => (HNE.out _ e).2 rfl) (fun e => (HNE.out _ e).1 rfl))
      go_roundw
      case rel =>
        refine ⟨_, cnt1, HRG3.out, ?_, ?_, ?_⟩
        · have h3 := HO3.out
          rw [List.length_append, ins2_append]
          exact h3
        · exact fr_no (HFR.out.trans' HF1.out (fun i hi hlt => by have : i = w.heap.size := hi; omega)) HNEW.out HF3.out
        · exact HNEW.out.trans (Newer.of HN3.out) (by have := HFR.out.size; have := HS1.out; simp; omega)
      case measure =>
        rw [HRG3.out.left_eq, HRG.out.left_eq]
        exact HLT.out
set_option maxRecDepth 100000 in
set_option maxHeartbeats 1000000 in
theorem sortedN_any (m : Nat) (L : List Idk) (f : Idk → Option Value) (w : World) (h : TabI Tryz.prog 30 w m L f) (hl : L.length < 1000000) :
    Calls Tryz.prog 63 #[.map (some m)] w fun e w' => ∃ v L', e = .returned v ∧ L'.Perm L ∧ (L'.Pairwise fun a b => aheadI b a = false) ∧ Own w' 30 2 v L.length (ins2 L') ∧ Newer w.heap.size none v.ownBlock ∧ Fr No w w' := by
  have HM := Lib.hid h
  clear h
  go_enter Tryz.func63, Tryz.ntmps63
  go_wp2_with (at_range; refine wpList_rangeI rfl (.tmp 5) 89 100 rfl keyIn Tryz.underlying89 rfl HM.out ?_; intro w0 hrg0 hf0)
  go_frame
  go_loopw [3] (fun lv wr => SrtRel w m w.heap.size L f lv wr) (fun _ wr => wr.rangeLeft m w.heap.size)
  case atStart => exact ⟨[], _, hrg0, Own.nil _ _ _, hf0, .inl rfl⟩
  case round =>
    obtain ⟨acc, cnt, hrg, hown, hfr, hnew⟩ := hrel
    have HRG := Lib.hid hrg
    have HOWN := Lib.hid hown
    have HFR := Lib.hid hfr
    have HNEW := Lib.hid hnew
    have HNE := Lib.hid (own_ne_rangeI hown hrg)
    clear hrg hown hfr hnew
    go_wp2_with (at_next; refine wpList_nextI rfl (.tmp 6) rfl keyIn rfl HRG.out ?_ ?_)
    · intro hp
      have hlen := hp.length_eq
      have ho := HOWN.out
      have h4 := Lib.hid (sortIn_any acc _ _ HOWN.out (by omega))
      go_wp2_with fail
      refine h4.out.mono ?_
      rintro e w5 ⟨rfl, L', p1, p2, p3, p4⟩
      go_wp2
      go_ret
      exact ⟨_, L', rfl, p1.trans hp, p2, hlen ▸ p3, HNEW.out, fr_no HFR.out HNEW.out p4⟩
    · intro k0 k v w1 cnt1 hk1 hk2 hk3 hk4 hrg1 hlt hf1 hs1 hen
      have HRG1 := Lib.hid hrg1
      have HF1 := Lib.hid hf1
      have HLT := Lib.hid hlt
      have HO1 := Lib.hid (HOWN.out.fr hf1 (fun k hk e => (HNE.out k hk).1 e.symm))
      have hX : Hid (acc.length + 1 ≤ L.length) := by
        have := acc_le hrg1.nd hrg1.tab.nd hrg1.sub
        rw [List.length_append] at this
        exact this
      have HS1 := Lib.hid hs1
      have HNB : Hid (∀ (W : World) o cs, ((W.alloc o).alloc (.cells cs 30)).heap[W.heap.size + 1]? = some (.cells cs 30 (0, 0))) := Lib.hid fun W o cs => by
        have := heap_alloc_new (W.alloc o) (.cells cs 30)
        rw [World.size_alloc] at this
        exact this
      clear hk1 hk2 hk3 hk4 hrg1 hlt hf1 hs1
      go_wp2_with (at_builtin; refine wpList_app _ rfl (.tmp 11) (.tmp 13) 36 36 rfl elIn ((HO1.out.alloc _).alloc _) rfl (Src.of_new (w1.heap.size + 1) (HNB.out _ _ _) Tryz.underlying36 rfl (by simp [Value.oneCell'])) rfl (by have := hX.out; unfold maxLen; omega) (by have := hX.out; omega) ?_; intro v1 w3 hown3 hfr3 hnew3)
      have HF3 := Lib.hid (Fr.trans (((Fr.refl _ _).alloc _).alloc _) hfr3)
      have HO3 := Lib.hid hown3
      have HN3 := Lib.hid hnew3
      clear hown3 hfr3 hnew3
      have HRG3 := Lib.hid (HRG1.out.fr HF3.out (fun e => (HNE.out _ e).2 rfl) (fun e => (HNE.out _ e).1 rfl))
      go_roundw
      case rel =>
        refine ⟨_, cnt1, HRG3.out, ?_, ?_, ?_⟩
        · have h3 := HO3.out
          rw [List.length_append, ins2_append]
          exact h3
        · exact fr_no (HFR.out.trans' HF1.out (fun i hi hlt => by have : i = w.heap.size := hi; omega)) HNEW.out HF3.out
        · exact HNEW.out.trans (Newer.of HN3.out) (by have := HFR.out.size; have := HS1.out; simp; omega)
      case measure =>
        rw [HRG3.out.left_eq, HRG.out.left_eq]
        exact HLT.out
end Go.Proofs.YtcpgamidimfflaaGreat
namespace Go.Proofs.YtcpgamidimfflaaGreat
open Go.RowKit Go.My Go.Maps
set_option linter.unusedSimpArgs false
set_option linter.unusedVariables false
attribute [local go_sem ↓] Go.wp_at_zero Go.wp_at_succ
def en0 : Value := .agg #[.int .i64 0, .int .i64 0, .int .i64 0, .string ⟨#[]⟩, .string ⟨#[]⟩, .int .i64 0, .slice none 0 0, .int .i64 0, .int .i64 0, .string ⟨#[]⟩, .bool false, .slice none 0 0]
theorem zeroEn (w : World) : (zeroValue 38).run Tryz.prog w = .ok en0 w := by kernel_rfl
theorem zeroInt14 (w : World) : (zeroValue 3).run Tryz.prog w = .ok (.int .i64 0) w := by kernel_rfl
theorem fr_set12 (w : World) (g : Nat) (a0 a1 a2 a3 a4 a5 a6 a7 a8 a9 a10 a11 : Value) : Fr (At1 g) w ((((((((((((w.setCell ⟨g, 0, none⟩ a0).setCell ⟨g, 1, none⟩ a1).setCell ⟨g, 2, none⟩ a2).setCell ⟨g, 3, none⟩ a3).setCell ⟨g, 4, none⟩ a4).setCell ⟨g, 5, none⟩ a5).setCell ⟨g, 6, none⟩ a6).setCell ⟨g, 7, none⟩ a7).setCell ⟨g, 8, none⟩ a8).setCell ⟨g, 9, none⟩ a9).setCell ⟨g, 10, none⟩ a10).setCell ⟨g, 11, none⟩ a11) := ((((((((((((fr_set w g 0 a0).trans (fr_set _ g 1 a1)).trans (fr_set _ g 2 a2)).trans (fr_set _ g 3 a3)).trans (fr_set _ g 4 a4)).trans (fr_set _ g 5 a5)).trans (fr_set _ g 6 a6)).trans (fr_set _ g 7 a7)).trans (fr_set _ g 8 a8)).trans (fr_set _ g 9 a9)).trans (fr_set _ g 10 a10)).trans (fr_set _ g 11 a11))
theorem fr_new12 {a w : World} (h : Fr No a w) (g : Nat) (hg : a.heap.size ≤ g) (a0 a1 a2 a3 a4 a5 a6 a7 a8 a9 a10 a11 : Value) : Fr No a ((((((((((((w.setCell ⟨g, 0, none⟩ a0).setCell ⟨g, 1, none⟩ a1).setCell ⟨g, 2, none⟩ a2).setCell ⟨g, 3, none⟩ a3).setCell ⟨g, 4, none⟩ a4).setCell ⟨g, 5, none⟩ a5).setCell ⟨g, 6, none⟩ a6).setCell ⟨g, 7, none⟩ a7).setCell ⟨g, 8, none⟩ a8).setCell ⟨g, 9, none⟩ a9).setCell ⟨g, 10, none⟩ a10).setCell ⟨g, 11, none⟩ a11) := h.trans' (fr_set12 w g a0 a1 a2 a3 a4 a5 a6 a7 a8 a9 a10 a11) (fun i hi hlt => by have : i = g := hi; omega)
end Go.Proofs.YtcpgamidimfflaaGreat
namespace Go.Proofs.YtcpgamidimfflaaGreat
open Go.RowKit Go.My Go.Maps
set_option linter.unusedSimpArgs false
set_option linter.unusedVariables false
attribute [local go_sem ↓] Go.wp_at_zero Go.wp_at_succ
set_option maxRecDepth 100000 in
set_option maxHeartbeats 2000000 in
theorem knows_any (p m : Nat) (x1 x2 x3 x4 : Value) (L : List Idk) (f : Idk → Option Value) (i : Idk) (w : World) (hb : Blk w p 92 #[.map (some m), x1, x2, x3, x4]) (h : TabI Tryz.prog 30 w m L f) (hi : IdOk i)
    (e : En) (A1 A2 : Option Addr) (n1 c1 n2 c2 : Nat) (hv : (f i).getD en0 = e.val (.slice A1 n1 c1) (.slice A2 n2 c2)) :
    Calls Tryz.prog 64 #[.pointer (some ⟨p, 0, none⟩), .agg #[.int .i64 i.1, .int .i64 i.2]] w fun e w' => e = .returned (.bool (f i).isSome) ∧ Fr No w w' := by
  have hl := fun (W : World) (hW : Fr No w W) => (h.fr hW (fun h => h)).look_ok keyIn Tryz.underlying88 (zeroEn W) i hi
  rw [hv] at hl
  obtain ⟨i0, i1⟩ := i
  obtain ⟨⟨a0, a1, a2, a3, a4, a5, lg, a6, a7, a8⟩, b0, dp⟩ := e
  unfold En.val at hl
  simp only at hl
  generalize (f (i0, i1)).isSome = b at *
  have hfa : Fr No w (w.alloc (.cells #[.int .i64 i0, .int .i64 i1] 30)) := (Fr.refl _ _).alloc _
  have HX : Hid (∀ W, Fr No (w.alloc (.cells #[.int .i64 i0, .int .i64 i1] 30)) W → Fr No (w.alloc (.cells #[.int .i64 i0, .int .i64 i1] 30)) W ∧ W.cell? ⟨p, 0, none⟩ = some (.map (some m)) ∧ W.cell? ⟨w.heap.size, 0, none⟩ = some (.int .i64 i0) ∧ W.cell? ⟨w.heap.size, 1, none⟩ = some (.int .i64 i1) ∧
      (Instr.lookup 88 (.map (some m)) (.agg #[.int .i64 i0, .int .i64 i1]) true).run Tryz.prog W = .ok (.tuple #[.agg #[.int .i64 a0, .int .i64 a1, .int .i64 a2, .string a3, .string a4, .int .i64 a5, .slice A1 n1 c1, .int .i64 a6, .int .i64 a7, .string a8, .bool b0, .slice A2 n2 c2], .bool b]) W) := Lib.hid fun W hW => by
    have h1 := (hb.alloc (.cells #[.int .i64 i0, .int .i64 i1] 30)).fr hW (fun h => h)
    have h2 := (Blk.new w 30 #[.int .i64 i0, .int .i64 i1]).fr hW (fun h => h)
    exact ⟨hW, h1.cell 0, h2.cell 0, h2.cell 1, hl W (hfa.trans hW)⟩
  have HFA := Lib.hid hfa
  clear h hi hb hl hv hfa
  go_enter Tryz.func64, Tryz.ntmps64
  go_upto_region 1 with (fail)
  generalize w.alloc (.cells #[.int .i64 i0, .int .i64 i1] 30) = w2 at *
  have hk0 : Fr No w2 w2.drew := (Fr.refl _ w2).drew
  have hz := (Blk.new w2 38 #[.int .i64 0, .int .i64 0, .int .i64 0, .string ⟨#[]⟩, .string ⟨#[]⟩, .int .i64 0, .slice none 0 0, .int .i64 0, .int .i64 0, .string ⟨#[]⟩, .bool false, .slice none 0 0]).fr (S := No) (w' := (w2.alloc (.cells #[.int .i64 0, .int .i64 0, .int .i64 0, .string ⟨#[]⟩, .string ⟨#[]⟩, .int .i64 0, .slice none 0 0, .int .i64 0, .int .i64 0, .string ⟨#[]⟩, .bool false, .slice none 0 0] 38)).drew) (Fr.drew (Fr.refl _ _)) (fun h => h)
  have z0 := hz.cell 0
  have y0 := hz.frozen 0
  have z1 := hz.cell 1
  have y1 := hz.frozen 1
  have z2 := hz.cell 2
  have y2 := hz.frozen 2
  have z3 := hz.cell 3
  have y3 := hz.frozen 3
  have z4 := hz.cell 4
  have y4 := hz.frozen 4
  have z5 := hz.cell 5
  have y5 := hz.frozen 5
  have z6 := hz.cell 6
  have y6 := hz.frozen 6
  have z7 := hz.cell 7
  have y7 := hz.frozen 7
  have z8 := hz.cell 8
  have y8 := hz.frozen 8
  have z9 := hz.cell 9
  have y9 := hz.frozen 9
  have z10 := hz.cell 10
  have y10 := hz.frozen 10
  have z11 := hz.cell 11
  have y11 := hz.frozen 11
  simp only [List.getElem?_toArray, List.getElem?_cons_zero, List.getElem?_cons_succ] at z0 z1 z2 z3 z4 z5 z6 z7 z8 z9 z10 z11
  clear hz
  go_region_held3 (fun W => Fr No w2 W ∧ W.cell? ⟨p, 0, none⟩ = some (.map (some m)) ∧ W.cell? ⟨w.heap.size, 0, none⟩ = some (.int .i64 i0) ∧ W.cell? ⟨w.heap.size, 1, none⟩ = some (.int .i64 i1) ∧ (Instr.lookup 88 (.map (some m)) (.agg #[.int .i64 i0, .int .i64 i1]) true).run Tryz.prog W = .ok (.tuple #[.agg #[.int .i64 a0, .int .i64 a1, .int .i64 a2, .string a3, .string a4, .int .i64 a5, .slice A1 n1 c1, .int .i64 a6, .int .i64 a7, .string a8, .bool b0, .slice A2 n2 c2], .bool b]) W)
    (first
      | (with_reducible refine HX.out _ ?_; with_reducible assumption)
      | (with_reducible refine HX.out _ ?_; exact Fr.drew ((Fr.refl _ _).alloc _))
      | (with_reducible refine HX.out _ ?_; exact fr_new12 (Fr.drew ((Fr.refl _ _).alloc _)) _ (Nat.le_refl _) _ _ _ _ _ _ _ _ _ _ _ _))
    (fail)
  all_goals
    go_wp2
    go_ret
    exact ⟨rfl, HFA.out.trans (by first | assumption | exact Fr.drew ((Fr.refl _ _).alloc _) | exact fr_new12 (Fr.drew ((Fr.refl _ _).alloc _)) _ (Nat.le_refl _) _ _ _ _ _ _ _ _ _ _ _ _)⟩
end Go.Proofs.YtcpgamidimfflaaGreat
namespace Go.Proofs.YtcpgamidimfflaaGreat
open Go.RowKit Go.My Go.Maps
set_option linter.unusedSimpArgs false
set_option linter.unusedVariables false
attribute [local go_sem ↓] Go.wp_at_zero Go.wp_at_succ
def RetIns (w : World) (L : List Idk) (e : Ending) (w' : World) : Prop := ∃ v L', e = .returned v ∧ L'.Perm L ∧ (L'.Pairwise fun a b => aheadI b a = false) ∧ Own w' 30 2 v L.length (ins2 L') ∧ Newer w.heap.size none v.ownBlock ∧ Fr No w w'
set_option maxRecDepth 100000 in
set_option maxHeartbeats 1000000 in
theorem known_any (p m : Nat) (x1 x2 x3 x4 : Value) (L : List Idk) (f : Idk → Option Value) (w : World) (hb : Blk w p 92 #[.map (some m), x1, x2, x3, x4]) (h : TabI Tryz.prog 30 w m L f) (hl : L.length < 1000000) :
    Calls Tryz.prog 25 #[.pointer (some ⟨p, 0, none⟩)] w (RetIns w L) := by
  have c0 := hb.cell 0
  simp only [List.getElem?_toArray, List.getElem?_cons_zero] at c0
  have H := Lib.hid (sortedE_any m L f w h hl)
  clear h hb
  go_enter Tryz.func25, Tryz.ntmps25
  go_wp2_with fail
  refine H.out.mono ?_
  rintro e w1 ⟨v, L', rfl, h1⟩
  have H1 := Lib.hid h1
  clear h1
  go_wp2
  go_ret
  exact ⟨v, L', rfl, H1.out⟩
set_option maxRecDepth 100000 in
set_option maxHeartbeats 1000000 in
theorem waits_any (p m : Nat) (x0 x2 x3 x4 : Value) (L : List Idk) (f : Idk → Option Value) (w : World) (hb : Blk w p 92 #[x0, .map (some m), x2, x3, x4]) (h : TabI Tryz.prog 30 w m L f) (hl : L.length < 1000000) :
    Calls Tryz.prog 27 #[.pointer (some ⟨p, 0, none⟩)] w (RetIns w L) := by
  have c0 := hb.cell 1
  simp only [List.getElem?_toArray, List.getElem?_cons_zero, List.getElem?_cons_succ] at c0
  have H := Lib.hid (sortedN_any m L f w h hl)
  clear h hb
  go_enter Tryz.func27, Tryz.ntmps27
  go_wp2_with fail
  refine H.out.mono ?_
  rintro e w1 ⟨v, L', rfl, h1⟩
  have H1 := Lib.hid h1
  clear h1
  go_wp2
  go_ret
  exact ⟨v, L', rfl, H1.out⟩
end Go.Proofs.YtcpgamidimfflaaGreat
