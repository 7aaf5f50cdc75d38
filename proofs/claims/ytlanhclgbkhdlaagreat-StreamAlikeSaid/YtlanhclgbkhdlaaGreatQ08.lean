/- A book's accounts and holds, as lists: what is set aside of an account is what its holds have together, whatever names there are. Replies, as they are in lists. Maps from numbers to values of any kind (functions, structs of them) that the call makes: of no program. A region that draws its order, by an invariant: of no program. A region that draws its order, whose operations and callees keep to a class of worlds: one walk of the text's order serves every order. Of no program. A region taken out of a function's code, so that a lemma can speak of it alone. Of no program. Contracts of package order: shapes. -/
import Derived.Test.YtlanhclgbkhdlaaGreatQ07
import Derived.Test.YtlanhclgbkhdlaaGreatQ02
import Derived.Test.YtlanhclgbkhdlaaGreatQ01
import Derived.Maps.Ext
import Derived.Maps.OwnSet
import Derived.Maps.OwnOps
import Derived.RegionTactic
import Derived.Deep.QuietTactic
import Derived.BigQuiet
import Derived.Test.YtlanhclgbkhdlaaGreatQ05
import Derived.Laws.EntriesVeiled
namespace Go.Proofs.YtlanhclgbkhdlaaGreat
open Go.RowKit Go.My Go.Maps
set_option linter.unusedSimpArgs false
set_option linter.unusedVariables false

structure KpB (S : List Ac) (H : List Hd) : Prop where
  inv : Inv S
  snd : ∀ nm a, getA S nm = some a → -a.lim ≤ a.hv - a.st
  set : ∀ nm a, getA S nm = some a → heldOf H nm = a.st
  own : ∀ h ∈ H, (getA S h.acct).isSome = true
theorem KpB.good {S : List Ac} {H : List Hd} (h : KpB S H) : Snd S := fun a ha => h.snd a.name a (getA_mem h.inv.rise ha)
theorem KpB.upd {S : List Ac} {H H' : List Hd} (h : KpB S H) {k : List UInt8} {c c' : Ac} (hg : getA S k = some c) (hn : c'.name = c.name) (hI : Inv (putA c' S)) (hs : -c'.lim ≤ c'.hv - c'.st) (hH : ∀ nm, heldOf H' nm = heldOf H nm + if nm = k then c'.st - c.st else 0) (hO : ∀ x ∈ H', x ∈ H ∨ x.acct = k) : KpB (putA c' S) H' where
  inv := hI
  snd nm a ha := by
    rw [getA_upd hg hn] at ha
    by_cases e : nm = k
    · rw [if_pos e] at ha
      injection ha with ha
      subst ha
      exact hs
    · rw [if_neg e] at ha
      exact h.snd nm a ha
  set nm a ha := by
    rw [getA_upd hg hn] at ha
    rw [hH]
    by_cases e : nm = k
    · rw [if_pos e] at ha ⊢
      injection ha with ha
      subst ha
      have := h.set k c hg
      rw [e]
      omega
    · rw [if_neg e] at ha ⊢
      have := h.set nm a ha
      omega
  own x hx := by
    rw [getA_upd hg hn]
    by_cases e : x.acct = k
    · rw [if_pos e]; rfl
    · rw [if_neg e]
      rcases hO x hx with h1 | h1
      · exact h.own x h1
      · exact absurd h1 e
theorem KpB.give {S : List Ac} {H : List Hd} (h : KpB S H) (nm : List UInt8) (x : Int) : KpB (actS (fun a => giveE a x) (fun a => giveA a x) S nm) H := by
  have hI := inv_give h.inv nm x
  unfold actS at hI ⊢
  cases hg : getA S nm with
  | none => exact h
  | some a =>
    rw [hg] at hI
    simp only at hI ⊢
    by_cases h0 : giveE a x = 0
    · rw [if_pos h0] at hI ⊢
      have e : giveA a x = { a with hv := a.hv - x } := by unfold giveA; rw [if_pos h0]
      rw [e] at hI ⊢
      refine h.upd hg rfl hI ?_ (fun k => by simp) (fun y hy => .inl hy)
      have h1 := h.snd nm a hg
      unfold giveE at h0
      split at h0
      · split at h0
        · cases h0
        · rename_i h2
          unfold freeB at h2
          simp only [decide_eq_false_iff_not, not_and, Classical.not_not] at h2
          simp only
          by_cases hx : 0 < x
          · have := h2 hx; omega
          · omega
      · cases h0
    · rw [if_neg h0]
      exact h
theorem KpB.leg {S : List Ac} {H : List Hd} (h : KpB S H) (g : Lg) : KpB (legS S g) H := by
  unfold legS
  split
  · exact h.give _ _
  · exact h
theorem KpB.legs {S : List Ac} {H : List Hd} (h : KpB S H) (L : List Lg) : KpB (legsS S L) H := by
  induction L generalizing S with
  | nil => exact h
  | cons g r ih =>
    unfold legsS
    split
    · exact ih (h.leg g)
    · exact h
theorem KpB.make {S : List Ac} {H : List Hd} (h : KpB S H) (L : List Lg) : KpB (makeS S L) H := by
  unfold makeS
  split
  · exact h.legs L
  · exact h
theorem KpB.aside {S : List Ac} {H H' : List Hd} (h : KpB S H) {nm : List UInt8} {x : Int} (h0 : asdE S nm x = 0) (hH : ∀ k, heldOf H' k = heldOf H k + if k = nm then x else 0) (hO : ∀ y ∈ H', y ∈ H ∨ y.acct = nm) : KpB (asdS S nm x) H' := by
  have hI := inv_aside h.inv nm x
  unfold asdE actE at h0
  unfold asdS actS at hI ⊢
  cases hg : getA S nm with
  | none => rw [hg] at h0; cases h0
  | some a =>
    rw [hg] at hI h0
    simp only at hI h0 ⊢
    rw [if_pos h0] at hI ⊢
    have e : asideA a x = { a with st := a.st + x } := by unfold asideA; rw [if_pos h0]
    rw [e] at hI ⊢
    refine h.upd hg rfl hI ?_ (fun k => by rw [hH k]; simp only; split <;> omega) hO
    have h1 := h.snd nm a hg
    unfold asideE at h0
    split at h0
    · split at h0
      · cases h0
      · rename_i h2
        unfold freeB at h2
        simp only [decide_eq_false_iff_not, not_and, Classical.not_not] at h2
        simp only
        by_cases hx : 0 < x
        · have := h2 hx; omega
        · omega
    · cases h0
theorem heldOf_none {S : List Ac} {H : List Hd} (h : KpB S H) {nm : List UInt8} (hg : getA S nm = none) : heldOf H nm = 0 := by
  have : ofH H nm = [] := by
    unfold ofH
    rw [List.filter_eq_nil_iff]
    intro x hx he
    have h1 := h.own x hx
    have h2 : x.acct = nm := by simpa using he
    rw [h2, hg] at h1
    cases h1
  unfold heldOf
  rw [this]
  rfl
theorem KpB.open {S : List Ac} {H : List Hd} (h : KpB S H) (nm : List UInt8) (lim : Int) (hl : In64 lim) : KpB (openS S nm lim) H := by
  have hI := inv_open h.inv nm lim hl
  unfold openS at hI ⊢
  by_cases h0 : openE S nm lim = 0
  · rw [if_pos h0] at hI ⊢
    have h1 : getA S nm = none ∧ 0 ≤ lim := by
      unfold openE at h0
      split at h0
      · cases h0
      · rename_i h1
        split at h0
        · cases h0
        · rename_i h2
          exact ⟨by simpa using h2, by omega⟩
    have hget : ∀ k, getA (putA ⟨nm, 0, 0, lim⟩ S) k = if k = nm then some ⟨nm, 0, 0, lim⟩ else getA S k := fun k => by
      by_cases e : k = nm
      · rw [if_pos e, e]
        exact getA_put_same S ⟨nm, 0, 0, lim⟩
      · rw [if_neg e]
        exact getA_put_other S ⟨nm, 0, 0, lim⟩ k (fun e2 => e e2)
    refine ⟨hI, fun k a ha => ?_, fun k a ha => ?_, fun x hx => ?_⟩
    · rw [hget] at ha
      by_cases e : k = nm
      · rw [if_pos e] at ha
        injection ha with ha
        subst ha
        simp only
        omega
      · rw [if_neg e] at ha
        exact h.snd k a ha
    · rw [hget] at ha
      by_cases e : k = nm
      · rw [if_pos e] at ha
        injection ha with ha
        subst ha
        rw [e]
        exact heldOf_none h h1.1
      · rw [if_neg e] at ha
        exact h.set k a ha
    · rw [hget]
      by_cases e : x.acct = nm
      · rw [if_pos e]; rfl
      · rw [if_neg e]; exact h.own x hx
  · rw [if_neg h0]
    exact h
/-- a book's accounts and holds -/
structure StB (S : List Ac) (H : List Hd) : Prop where
  kp : KpB S H
  pos : PosH H
  rise : RiseH H
  few : ∀ nm, (ofH H nm).length ≤ 8
theorem StB.none : StB [] [] :=
  { kp := { inv := inv0, snd := (fun nm a h => by cases h), set := (fun nm a h => by cases h), own := (fun h hh => by cases hh) }
    pos := (fun h hh => by cases hh)
    rise := List.Pairwise.nil
    few := (fun nm => by simp [ofH]) }
theorem StB.del {S S' : List Ac} {H : List Hd} {a : List UInt8} {n : Int} (h : StB S H) (hk : KpB S' (delH H a n)) : StB S' (delH H a n) :=
  ⟨hk, fun y hy => h.pos y (List.mem_filter.1 hy).1, rise_filter h.rise _, fun nm => Nat.le_trans (of_len_del H _ _ nm) (h.few nm)⟩
theorem StB.put {S : List Ac} {H : List Hd} (h : StB S H) (n x : Int) (a : List UInt8) (hx : x ≤ 9223372036854775807) (ha : a.length ≤ 8) : StB (putSS S H n a x) (putHH S H n a x) := by
  by_cases h0 : putE S H n a x = 0
  · obtain ⟨h1, h2, h3, h4, h5, h6⟩ := put_zero h0
    unfold putSS putHH
    rw [if_pos h0, if_pos h0]
    refine ⟨h.kp.aside h6 (fun k => held_ins ⟨n, a, x⟩ H k) (fun y hy => ?_), fun y hy => ?_, rise_insH _ _ h.rise h4, fun nm => ?_⟩
    · rcases (mem_insH _ _ _).1 hy with rfl | hy
      · exact .inr rfl
      · exact .inl hy
    · rcases (mem_insH _ _ _).1 hy with rfl | hy
      · exact ⟨h1, h2, h3, hx, ha⟩
      · exact h.pos y hy
    · have := of_len_ins ⟨n, a, x⟩ H nm
      simp only at this
      by_cases e : nm = a
      · subst e
        rw [if_pos rfl] at this
        omega
      · rw [if_neg e] at this
        have := h.few nm
        omega
  · unfold putSS putHH
    rw [if_neg h0, if_neg h0]
    exact h
theorem StB.free {S : List Ac} {H : List Hd} (h : StB S H) (a : List UInt8) (n : Int) : StB (freeSS S H a n) (freeHH S H a n) ∧ (freeE S H a n ≠ 0 → freeSS S H a n = S) := by
  unfold freeHH freeSS freeE
  cases hg : getH H a n with
  | none => exact ⟨h, fun _ => rfl⟩
  | some y =>
    simp only
    by_cases h0 : asdE S a (-y.sum) = 0
    · rw [if_pos h0]
      exact ⟨h.del (h.kp.aside h0 (fun k => held_del h.rise hg k) (fun z hz => .inl (List.mem_filter.1 hz).1)), fun e => absurd h0 e⟩
    · rw [if_neg h0]
      have e : asdS S a (-y.sum) = S := act_err h0
      rw [e]
      exact ⟨h, fun _ => rfl⟩
theorem StB.take {S : List Ac} {H : List Hd} (h : StB S H) (a b : ByteArray) (n x : Int) : StB (takeSS S H a n b x) (takeHH S H a n b x) := by
  by_cases h0 : takeE S H a n b x = 0
  · unfold takeSS takeHH
    rw [if_pos h0, if_pos h0]
    unfold takeE at h0
    cases hg : getH H a.data.toList n with
    | none => rw [hg] at h0; cases h0
    | some y =>
      rw [hg] at h0
      simp only at h0
      split at h0
      · cases h0
      · split at h0
        · rename_i h1
          exact h.del ((h.kp.aside h1 (fun k => held_del h.rise hg k) (fun z hz => .inl (List.mem_filter.1 hz).1)).make _)
        · rename_i h1
          exact absurd h0 h1
  · unfold takeSS takeHH
    rw [if_neg h0, if_neg h0]
    exact h
theorem StB.post {S : List Ac} {H : List Hd} (h : StB S H) (L : List Lg) : StB (makeS S L) H := ⟨h.kp.make L, h.pos, h.rise, h.few⟩
theorem StB.open {S : List Ac} {H : List Hd} (h : StB S H) (nm : List UInt8) (lim : Int) (hl : In64 lim) : StB (openS S nm lim) H := ⟨h.kp.open nm lim hl, h.pos, h.rise, h.few⟩
end Go.Proofs.YtlanhclgbkhdlaaGreat

namespace Go.Proofs.YtlanhclgbkhdlaaGreat
open Go.RowKit Go.My Go.Maps
set_option linter.unusedSimpArgs false
set_option linter.unusedVariables false
/-- a reply -/
structure Rp where
  err : Int
  hv : Int
  st : Int
  num : Int
instance : DecidableEq Rp := fun a b =>
  if h : a.err = b.err ∧ a.hv = b.hv ∧ a.st = b.st ∧ a.num = b.num then isTrue (by cases a; cases b; simp_all) else isFalse (fun e => h (by subst e; exact ⟨rfl, rfl, rfl, rfl⟩))
def Rp.ok (r : Rp) : Prop := In64 r.err ∧ In64 r.hv ∧ In64 r.st ∧ In64 r.num
def Rp.val (r : Rp) : Value := .agg #[.int .i64 r.err, .int .i64 r.hv, .int .i64 r.st, .int .i64 r.num]
end Go.Proofs.YtlanhclgbkhdlaaGreat

namespace Go.My
open Go Go.RowKit Go.Maps
set_option linter.unusedSimpArgs false
set_option linter.unusedVariables false

def heldR (v : Value) : Option (DataW Value × List MemPlace) := some (.held v, [])
theorem isKey_int (k : Int) : WideAt.IsKeyLit (.int .i64 k) := by unfold WideAt.IsKeyLit; exact True.intro
/-- block m is such a map: what it holds, by key -/
def Tab (P : Program) (kt : TypeId) (w : World) (m n : Nat) (f : Int → Option Value) : Prop :=
  ∃ D : DataW Value, w.ownsMap P kt heldR m n D ∧ Tidy D ∧ (∀ k, In64 k → Maps.has D (.int .i64 k) = (f k).isSome) ∧ ∀ k, In64 k → ∀ z, D.atKey (.int .i64 k) z = match f k with | some v => .held v | none => z
section
variable {P : Program} {kt : TypeId} {w w' : World} {m n : Nat} {f : Int → Option Value}
theorem Tab.lt (h : Tab P kt w m n f) : m < w.heap.size := by obtain ⟨D, h, _⟩ := h; exact h.lt
theorem Tab.fr {F : Nat → Prop} (h : Tab P kt w m n f) (hf : Fr F w w') (hn : ¬ F m) : Tab P kt w' m n f := by
  obtain ⟨D, ⟨es, clock, hb, r⟩, r2⟩ := h
  exact ⟨D, ⟨es, clock, (hf.block m (Array.getElem?_eq_some_iff.1 hb).1 hn).trans hb, r⟩, r2⟩
theorem Tab.made (w : World) : Tab P kt (w.alloc (.map #[] 0)) w.heap.size 0 (fun _ => none) :=
  ⟨.map [], World.ownsMap_made _ _ _ _, tidy_empty, fun _ _ => rfl, fun _ _ _ => rfl⟩
theorem key_i64 (hk : P.underlying kt = some (.int .i64)) {k : Int} (h : In64 k) : keyOf P kt (.int .i64 k) = some (.int .i64 k) := by
  refine keyOf_int_mk hk ?_
  unfold In64 at h
  unfold Lit.wf IntKind.min IntKind.max
  simp [IntKind.signed, IntKind.bits]
  omega
theorem Tab.put (h : Tab P kt w m n f) (hk : P.underlying kt = some (.int .i64)) {t e : TypeId} (ht : P.underlying t = some (.map kt e)) (hn : n < maxLen) (k : Int) (hK : In64 k) (v : Value) :
    ∃ w', (Instr.mapUpdate t (.map (some m)) (.int .i64 k) v).run P w = .ok () w' ∧ Tab P kt w' m (n + 1) (fun j => if j = k then some v else f j) ∧ Fr (At1 m) w w' := by
  obtain ⟨D, ho, hT, hh, ha⟩ := h
  obtain ⟨w', hrun, hown, hg⟩ := ho.update (int_keyed hk) ht hn (key_i64 hk hK) (show heldR v = some (.held v, []) from rfl)
  refine ⟨w', hrun, ⟨_, hown, hT.put (isKey_int k) _, fun j hj => ?_, fun j hj z => ?_⟩, ⟨hg.os, hg.tape, hg.output, hg.size, fun i hi hn => hg.block i hi (fun e => hn (by injection e with e))⟩⟩
  · by_cases e : j = k
    · subst e
      rw [has_put_same hT.isMap (isKey_int _)]
      simp
    · rw [has_put_other (fun e2 => e (by injection e2)), hh j hj]
      simp [e]
  · by_cases e : j = k
    · subst e
      rw [atKey_put_same hT.isMap (isKey_int _)]
      simp
    · rw [atKey_put_other (fun e2 => e (by injection e2)), ha j hj z]
      simp [e]
theorem Tab.look_ok (h : Tab P kt w m n f) (hk : P.underlying kt = some (.int .i64)) {t e : TypeId} (ht : P.underlying t = some (.map kt e)) {z : Value} (hz : (zeroValue e).run P w = .ok z w) (k : Int) (hK : In64 k) :
    (Instr.lookup t (.map (some m)) (.int .i64 k) true).run P w = .ok (.tuple #[(f k).getD z, .bool (f k).isSome]) w := by
  obtain ⟨D, ho, hT, hh, ha⟩ := h
  obtain ⟨v, ps, hrun, hv⟩ := ho.look_ok (int_keyed hk) ht hz (show heldR z = some (.held z, []) from rfl) (key_i64 hk hK)
  rw [hh k hK] at hrun
  rw [ha k hK] at hv
  cases hf : f k with
  | none =>
    rw [hf] at hrun hv
    injection hv with hv
    injection hv with hv _
    injection hv with hv
    rw [hrun, hv]
    rfl
  | some u =>
    rw [hf] at hrun hv
    injection hv with hv
    injection hv with hv _
    injection hv with hv
    rw [hrun, hv]
    rfl
theorem Tab.look (h : Tab P kt w m n f) (hk : P.underlying kt = some (.int .i64)) {t e : TypeId} (ht : P.underlying t = some (.map kt e)) {z : Value} (hz : (zeroValue e).run P w = .ok z w) (k : Int) (hK : In64 k) :
    (Instr.lookup t (.map (some m)) (.int .i64 k) false).run P w = .ok ((f k).getD z) w := by
  obtain ⟨D, ho, hT, hh, ha⟩ := h
  obtain ⟨v, ps, hrun, hv⟩ := ho.lookup (int_keyed hk) ht hz (show heldR z = some (.held z, []) from rfl) (key_i64 hk hK)
  rw [ha k hK] at hv
  cases hf : f k with
  | none =>
    rw [hf] at hv
    injection hv with hv
    injection hv with hv _
    injection hv with hv
    rw [hrun, hv]
    rfl
  | some u =>
    rw [hf] at hv
    injection hv with hv
    injection hv with hv _
    injection hv with hv
    rw [hrun, hv]
    rfl
theorem wpList_tab (w : World) {ops : Array Oper} {rest : List Oper} {o : Oper} {a : Act} {Q : Exit → Act → World → Prop} (hg : o.guard = none) (x y z : Operand) {t e : TypeId} (hop : o.op = Op.mapUpdate t x y z)
    (hx : a.eval x = .map (some m)) (h : Tab P kt w m n f) (hk : P.underlying kt = some (.int .i64)) (ht : P.underlying t = some (.map kt e)) (k : Int) (v : Value) (hy : a.eval y = .int .i64 k) (hz : a.eval z = v) (hK : In64 k) (hl : n < maxLen)
    (hC : ∀ w', Tab P kt w' m (n + 1) (fun j => if j = k then some v else f j) → Fr (At1 m) w w' → wpList P ops Q rest (a.put o.dst undef) w') : wpList P ops Q (o :: rest) a w := by
  refine wpList_plain hg fun K' hK' => ?_
  obtain ⟨w', hrun, r1, r2⟩ := h.put hk ht hl k hK v
  unfold Oper.wp
  simp [execOp, hop, hx, hy, hz, hrun, Result.andThen]
  exact hK' _ _ (hC w' r1 r2)
end
end Go.My

namespace Go.My
open Go Go.RowKit
set_option linter.unusedSimpArgs false
set_option linter.unusedVariables false

/-- what has not come up yet -/
def unl (l : Array Bool) : Nat := l.countP (fun b => b == false)
theorem unl_set {l : Array Bool} {i : Nat} (h : l.getD i true = false) : unl (l.setIfInBounds i true) + 1 = unl l := by
  have hlt : i < l.size := by
    rcases Nat.lt_or_ge i l.size with h' | h'
    · exact h'
    · simp [h'] at h
  have hv : l[i] = false := by simpa [hlt] using h
  have e : l.setIfInBounds i true = l.set i true hlt := by simp [Array.setIfInBounds, hlt]
  unfold unl
  rw [e, Array.countP_set hlt, hv]
  simp only [beq_self_eq_true, if_true]
  have hpos : 0 < l.countP (fun b => b == false) := Array.countP_pos_iff.2 ⟨l[i], Array.getElem_mem hlt, by rw [hv]; rfl⟩
  have : (true == false) = false := rfl
  rw [this]
  simp only [Bool.false_eq_true, if_false]
  omega
theorem unl_zero {l : Array Bool} (h : unl l = 0) (i : Nat) : l.getD i true = true := by
  rcases Nat.lt_or_ge i l.size with h' | h'
  · have := Array.countP_eq_zero.1 h l[i] (Array.getElem_mem h')
    simpa [h'] using this
  · simp [h']
theorem unl_least {l : Array Bool} (h : unl l ≠ 0) : ∃ i, i < l.size ∧ l.getD i true = false ∧ ∀ j, j < i → l.getD j false = true := by
  obtain ⟨b, hb, hb2⟩ := Array.countP_pos_iff.1 (Nat.pos_of_ne_zero h)
  obtain ⟨k, hk, rfl⟩ := Array.getElem_of_mem hb
  have hk2 : l.getD k true = false := by simpa [hk] using hb2
  clear hb hb2 h
  induction k using Nat.strongRecOn with
  | _ k ih =>
    by_cases hx : ∃ j, j < k ∧ l.getD j false = false
    · obtain ⟨j, hj, hjf⟩ := hx
      have hjl : j < l.size := by omega
      exact ih j hj hjl (by simpa [hjl] using hjf)
    · refine ⟨k, hk, hk2, fun j hj => ?_⟩
      cases hq : l.getD j false with
      | true => rfl
      | false => exact absurd ⟨j, hj, hq⟩ hx
section
variable {P : Program} {ops : Array Oper} {Q : Exit → Act → World → Prop} {md : Region.Mode}
theorem wpAny_inv (Inv : Array Bool → Act → World → Prop) (hsz : ∀ l a w, Inv l a w → l.size = ops.size)
    (hback : ∀ i o, ops[i]? = some o → ∀ e ∈ o.after, Region.binds md e = true → e.on < i)
    (hstep : ∀ l a w i o, Inv l a w → ops[i]? = some o → l.getD i true = false → (∀ e ∈ o.after, Region.binds md e = true → l.getD e.on false = true) → wpOp P ops Q i (Inv (l.setIfInBounds i true)) a w)
    (hend : ∀ l a w, Inv l a w → (∀ i, i < ops.size → l.getD i false = true) → Q .normal a w) :
    ∀ fuel l a w, Inv l a w → unl l = fuel → wpAny P md ops Q fuel l a w := by
  intro fuel
  induction fuel with
  | zero =>
    intro l a w h hu
    refine ⟨?_, hend l a w h fun i hi => ?_⟩
    · cases hr : Region.ready md ops l with
      | nil => rfl
      | cons j t =>
        have hj : j ∈ Region.ready md ops l := by rw [hr]; exact List.mem_cons_self
        have h1 := (mem_ready.1 hj).1
        rw [unl_zero hu j] at h1
        cases h1
    · have h1 := unl_zero hu i
      have h2 : i < l.size := by rw [hsz l a w h]; exact hi
      simpa [h2] using h1
  | succ fuel ih =>
    intro l a w h hu
    refine ⟨fun hr => ?_, fun i hi => ?_⟩
    · obtain ⟨i, hi, hf, hlt⟩ := unl_least (l := l) (by omega)
      have hio : i < ops.size := by rw [← hsz l a w h]; exact hi
      have : i ∈ Region.ready md ops l := mem_ready.2 ⟨hf, ops[i], Array.getElem?_eq_getElem hio, fun e he hb => hlt _ (hback i _ (Array.getElem?_eq_getElem hio) e he hb)⟩
      rw [hr] at this
      cases this
    · obtain ⟨hf, o, ho, hall⟩ := mem_ready.1 hi
      refine wpOp_mono (fun a' w' h' => ih _ _ _ h' ?_) (hstep l a w i o h ho hf hall)
      have := unl_set hf
      omega
theorem wp_region_inv {id : Nat} {a : Act} {w : World} (hm : P.follows .mixedOrders = true) (Inv : Array Bool → Act → World → Prop) (hsz : ∀ l a w, Inv l a w → l.size = ops.size)
    (hback : ∀ i o, ops[i]? = some o → ∀ e ∈ o.after, Region.binds .any e = true → e.on < i)
    (hstep : ∀ l a w i o, Inv l a w → ops[i]? = some o → l.getD i true = false → (∀ e ∈ o.after, Region.binds .any e = true → l.getD e.on false = true) → wpOp P ops Q i (Inv (l.setIfInBounds i true)) a w)
    (hend : ∀ l a w, Inv l a w → (∀ i, i < ops.size → l.getD i false = true) → Q .normal a w)
    (h0 : Inv (Array.replicate ops.size false) a w.drew) : (Code.region id ops true).wp P Q a w := by
  refine wp_region_any hm (wpAny_inv Inv hsz hback hstep hend _ _ _ _ h0 ?_)
  unfold unl
  rw [Array.countP_replicate]
  simp
end
end Go.My

namespace Go.My
open Go
set_option linter.unusedVariables false

/-- a world of a class -/
structure WIn (D : World → Prop) where
  W : World
  h : D W
theorem wp_region_in {P : Program} {D : World → Prop} {id : Nat} {Q : Exit → Act → World → Prop} {a : Act} {w : World} {l : List Oper} (hm : P.follows .mixedOrders = true) (hB : Region.lexB .any l.toArray = true) (hD : D w.drew)
    (h : wpQuiet P l.toArray (fun w' => ∃ x : WIn D, w' = x.W) (fun a' => ∀ w', (∃ x : WIn D, w' = x.W) → Q .normal a' w') l a) : (Code.region id l.toArray true).wp P Q a w :=
  wp_region_quiet (C := fun w' => ∃ x : WIn D, w' = x.W) hm hB ⟨⟨_, hD⟩, rfl⟩ (by simpa using h)
/-- a callee that keeps to the class -/
theorem Calls.in_of {P : Program} {D : World → Prop} {f : FuncId} {args : Array Value} {v : Value} (x : WIn D) (h : ∀ W, D W → Calls P f args W fun e w' => e = .returned v ∧ D w') :
    Calls P f args x.W fun e w' => e = .returned v ∧ ∃ y : WIn D, w' = y.W :=
  (h x.W x.h).mono fun _ w' h => ⟨h.1, ⟨w', h.2⟩, rfl⟩
end Go.My

namespace Go.My
open Go
/-- region number n of a code -/
def findR (n : Nat) : Code → Option Code
  | .region i ops d => if i = n then some (.region i ops d) else none
  | .seq a b => match findR n a with
    | some c => some c
    | none => findR n b
  | .cond _ a b => match findR n a with
    | some c => some c
    | none => findR n b
  | .block _ c => findR n c
  | .loop c => findR n c
  | .scope c => findR n c
  | _ => none
def opsOf : Code → Array Oper
  | .region _ o _ => o
  | _ => #[]
def regOf (n : Nat) (f : Func) : Code := (f.body.bind (findR n)).getD .skip
end Go.My

namespace Go.Proofs.YtlanhclgbkhdlaaGreat
open Go.RowKit Go.My Go.Maps
set_option linter.unusedSimpArgs false
set_option linter.unusedVariables false

def fnV (f : FuncId) : Value := .func (.func f) #[] #[]
/-- the functions that look at the fields of a kind's orders -/
def shp (a b c d e f g : FuncId) : Array Value := #[fnV a, fnV b, fnV c, fnV d, fnV e, fnV f, fnV g]

/-- what a slot holds when so much is done -/
def shSlot (p : Nat) (E : Array Value) (g : Nat → Nat) (L : Nat → Bool) (k : Nat) : Value :=
  if k = 0 then .map none else if k = 1 then .pointer (some ⟨p, 0, none⟩) else if k < 9 then (if L (k + 5) then .pointer (some ⟨g (k - 2), 0, none⟩) else undef)
  else if k = 9 then .agg E else if k < 17 then (if L (k - 10) then .agg E else undef) else undef
def zs7 : Array Value := #[.nilFunc, .nilFunc, .nilFunc, .nilFunc, .nilFunc, .nilFunc, .nilFunc]
structure ShInv (w0 : World) (p : Nat) (E : Array Value) (l : Array Bool) (a : Act) (w : World) : Prop where
  size : l.size = 21
  len : a.tmps.size = 42
  defs : a.defers = []
  src : Blk w p 127 E
  fr : Fr No w0 w
  dep : ∀ j, j < 7 → l.getD (14 + j) false = true → l.getD (7 + j) false = true
  mem : ∃ g : Nat → Nat, (∀ k, k < 42 → a.tmps[k]? = some (shSlot p E g (fun i => l.getD i false) k)) ∧
    (∀ j, j < 7 → l.getD (7 + j) false = true → w0.heap.size ≤ g j ∧ Blk w (g j) 127 (if l.getD (14 + j) false = true then E else zs7)) ∧
    (∀ j k, j < 7 → k < 7 → l.getD (7 + j) false = true → l.getD (7 + k) false = true → g j = g k → j = k)

theorem ex_load {ρ : Operand → Value} {o : Oper} {x : Operand} {p : Nat} {w : World} {c0 c1 c2 c3 c4 c5 c6 : Value} (hop : o.op = .load 127 x) (hx : ρ x = .pointer (some ⟨p, 0, none⟩)) (hb : Blk w p 127 #[c0, c1, c2, c3, c4, c5, c6]) :
    (execOp ρ o).run Tryz.prog w = .ok (.value (.agg #[c0, c1, c2, c3, c4, c5, c6])) w := by
  have h0 := hb.cell 0
  have h1 := hb.cell 1
  have h2 := hb.cell 2
  have h3 := hb.cell 3
  have h4 := hb.cell 4
  have h5 := hb.cell 5
  have h6 := hb.cell 6
  simp only [List.getElem?_toArray, List.getElem?_cons_zero, List.getElem?_cons_succ] at h0 h1 h2 h3 h4 h5 h6
  unfold execOp
  rw [hop]
  simp [hx, go_sem, h0, h1, h2, h3, h4, h5, h6]
theorem ex_alloc {ρ : Operand → Value} {o : Oper} {w : World} (hop : o.op = .alloc 127) :
    (execOp ρ o).run Tryz.prog w = .ok (.value (.pointer (some ⟨w.heap.size, 0, none⟩))) (w.alloc (.cells zs7 127)) := by
  unfold execOp
  rw [hop]
  simp [go_sem, zs7]
noncomputable def sh2s : { c : Code // regOf 2 Tryz.f59 = c } := ⟨_, by conv => lhs; whnf⟩
noncomputable def sh2 : Code := sh2s.1
def okB (i : Nat) (o : Oper) : Bool :=
  o.after.all (fun e => !Region.binds .any e || decide (e.on < i)) &&
  match o.op, o.dst, o.guard with
  | .load t (.tmp x), some d, none => decide (i < 7) && decide (t = 127) && decide (x = 1) && decide (d = 10 + i)
  | .alloc t, some d, none => decide (7 ≤ i) && decide (i < 14) && decide (t = 127) && decide (d + 5 = i)
  | .store t (.tmp x) (.tmp y), none, none => decide (14 ≤ i) && decide (i < 21) && decide (t = 127) && decide (x + 12 = i) && decide (y + 4 = i) && o.after.toList.any (fun e => decide (e.on + 7 = i) && Region.binds .any e) && o.after.toList.any (fun e => decide (e.on + 14 = i) && Region.binds .any e)
  | _, _, _ => false
theorem sh2_ok : (opsOf sh2).toList.zipIdx.all (fun x => okB x.2 x.1) = true := by kernel_rfl
theorem sh2_size : (opsOf sh2).size = 21 := by kernel_rfl
theorem sh2_at {i : Nat} {o : Oper} (h : (opsOf sh2)[i]? = some o) : okB i o = true := by
  have h1 := List.all_eq_true.1 sh2_ok (o, i) (by
    rw [List.mem_zipIdx_iff_getElem?]
    simpa using h)
  exact h1
theorem okB_back {i : Nat} {o : Oper} (h : okB i o = true) : ∀ e ∈ o.after, Region.binds .any e = true → e.on < i := by
  intro e he hb
  unfold okB at h
  rw [Bool.and_eq_true, Array.all_eq_true_iff_forall_mem] at h
  have := h.1 e he
  rw [hb] at this
  simpa using this
theorem tmp5 (d i : Nat) (h : d + 5 = i) (h7 : 7 ≤ i) : d = i - 7 + 2 := by omega
theorem tmp12 (d i : Nat) (h : d + 12 = i) (h7 : 14 ≤ i) : d = i - 14 + 2 := by omega
theorem tmp4 (d i : Nat) (h : d + 4 = i) (h7 : 14 ≤ i) : d = 10 + (i - 14) := by omega
/-- the three kinds of operations -/
theorem okB_kind {i : Nat} {o : Oper} (h : okB i o = true) : o.guard = none ∧
    ((i < 7 ∧ o.op = .load 127 (.tmp 1) ∧ o.dst = some (10 + i)) ∨
     (∃ j, j < 7 ∧ i = 7 + j ∧ o.op = .alloc 127 ∧ o.dst = some (j + 2)) ∨
     (∃ j, j < 7 ∧ i = 14 + j ∧ o.op = .store 127 (.tmp (j + 2)) (.tmp (10 + j)) ∧ o.dst = none ∧ (∃ e ∈ o.after, e.on = 7 + j ∧ Region.binds .any e = true) ∧ ∃ e ∈ o.after, e.on = j ∧ Region.binds .any e = true)) := by
  unfold okB at h
  rw [Bool.and_eq_true] at h
  obtain ⟨-, h⟩ := h
  split at h
  · rename_i t x d hop hd hg
    simp only [Bool.and_eq_true, decide_eq_true_eq] at h
    obtain ⟨⟨⟨h1, rfl⟩, rfl⟩, rfl⟩ := h
    exact ⟨hg, .inl ⟨h1, hop, hd⟩⟩
  · rename_i t d hop hd hg
    simp only [Bool.and_eq_true, decide_eq_true_eq] at h
    obtain ⟨⟨⟨h1, h2⟩, rfl⟩, h3⟩ := h
    exact ⟨hg, .inr (.inl ⟨i - 7, by omega, by omega, hop, by rw [hd, show d = i - 7 + 2 from tmp5 d i h3 h1]⟩)⟩
  · rename_i t x y hop hd hg
    simp only [Bool.and_eq_true, decide_eq_true_eq, List.any_eq_true, Array.mem_toList_iff] at h
    obtain ⟨⟨⟨⟨⟨⟨h1, h2⟩, rfl⟩, h3⟩, h4⟩, e1, he1, h5, h6⟩, e2, he2, h7, h8⟩ := h
    refine ⟨hg, .inr (.inr ⟨i - 14, by omega, by omega, ?_, hd, ⟨e1, he1, by omega, h6⟩, e2, he2, by omega, h8⟩)⟩
    rw [hop, show x = i - 14 + 2 from tmp12 x i h3 h1, show y = 10 + (i - 14) from tmp4 y i h4 h1]
  · cases h
theorem getD_set (l : Array Bool) (i n : Nat) (hi : i < l.size) : (l.setIfInBounds i true).getD n false = ((n == i) || l.getD n false) := by
  by_cases e : n = i
  · subst e
    simp [hi]
  · rw [getD_set_ne false (fun h => e h.symm)]
    simp [e]
theorem slot_other {p : Nat} {E : Array Value} {g g' : Nat → Nat} {L L' : Nat → Bool} {k : Nat} (h1 : ∀ n, n < 21 → (n + 10 = k ∧ k < 17) ∨ (n = k + 5 ∧ 2 ≤ k ∧ k < 9) → L' n = L n) (h2 : ∀ n, n + 2 = k → g' n = g n) : shSlot p E g' L' k = shSlot p E g L k := by
  unfold shSlot
  by_cases c0 : k = 0
  · rw [if_pos c0, if_pos c0]
  rw [if_neg c0, if_neg c0]
  by_cases c1 : k = 1
  · rw [if_pos c1, if_pos c1]
  rw [if_neg c1, if_neg c1]
  by_cases c9 : k < 9
  · rw [if_pos c9, if_pos c9, h1 (k + 5) (by omega) (.inr ⟨rfl, by omega, by omega⟩), h2 (k - 2) (by omega)]
  rw [if_neg c9, if_neg c9]
  by_cases d9 : k = 9
  · rw [if_pos d9, if_pos d9]
  rw [if_neg d9, if_neg d9]
  by_cases c17 : k < 17
  · rw [if_pos c17, if_pos c17, h1 (k - 10) (by omega) (.inl ⟨by omega, by omega⟩)]
  rw [if_neg c17, if_neg c17]
theorem put_at {a : Act} {d k : Nat} {v : Value} (hd : d < a.tmps.size) : (a.put (some d) v).tmps[k]? = if k = d then some v else a.tmps[k]? := by
  unfold Act.put
  simp only
  by_cases e : k = d
  · subst e
    simp [hd]
  · rw [if_neg e, Array.getElem?_setIfInBounds_ne (fun h => e h.symm)]
theorem eval_at {a : Act} {k : Nat} {v : Value} (h : a.tmps[k]? = some v) : a.eval (.tmp k) = v := by
  unfold Act.eval
  simp [h]
theorem oneF (c0 c1 c2 c3 c4 c5 c6 : FuncId) : (shp c0 c1 c2 c3 c4 c5 c6).all (·.oneCell') = true := by simp [shp, fnV, Value.oneCell']
theorem sh_step {w0 : World} {p : Nat} {Q : Exit → Act → World → Prop} {c0 c1 c2 c3 c4 c5 c6 : FuncId} (hp : p < w0.heap.size) (l : Array Bool) (a : Act) (w : World) (i : Nat) (o : Oper)
    (h : ShInv w0 p (shp c0 c1 c2 c3 c4 c5 c6) l a w) (ho : (opsOf sh2)[i]? = some o) (hf : l.getD i true = false) (hall : ∀ e ∈ o.after, Region.binds .any e = true → l.getD e.on false = true) :
    wpOp Tryz.prog (opsOf sh2) Q i (ShInv w0 p (shp c0 c1 c2 c3 c4 c5 c6) (l.setIfInBounds i true)) a w := by
  obtain ⟨hg, hk⟩ := okB_kind (sh2_at ho)
  have hlt : i < l.size := by
    have := (Array.getElem?_eq_some_iff.1 ho).1
    rw [sh2_size] at this
    rw [h.size]
    exact this
  have hff : l.getD i false = false := by simpa [hlt] using hf
  obtain ⟨g, m1, m2, m3⟩ := h.mem
  have hL := fun n => getD_set l i n hlt
  refine wpOp_step ho fun K' hK => ?_
  rw [if_pos (by unfold Region.wanted; rw [hg])]
  rcases hk with ⟨hi, hop, hd⟩ | ⟨j, hj, rfl, hop, hd⟩ | ⟨j, hj, rfl, hop, hd, ⟨e1, he1, he2, he3⟩, e4, he4, he5, he6⟩
  · unfold Oper.wp
    rw [ex_load hop (eval_at (m1 1 (by omega))) h.src, Oper.upon_value, hd]
    refine hK _ _ ⟨by simpa using h.size, by simpa [Act.put] using h.len, by simpa [Act.put] using h.defs, h.src, h.fr, fun j hj hl => ?_, g, fun k hk => ?_, fun j hj hl => ?_, fun j k hj hk h1 h2 => ?_⟩
    · rw [hL, show (14 + j == i) = false from beq_eq_false_iff_ne.2 (by omega), Bool.false_or] at hl
      rw [hL, h.dep j hj hl, Bool.or_true]
    · rw [put_at (by rw [h.len]; omega)]
      by_cases e : k = 10 + i
      · rw [if_pos e]
        unfold shSlot
        rw [if_neg (by omega), if_neg (by omega), if_neg (by omega), if_neg (by omega), if_pos (by omega)]
        simp only [hL]
        rw [show k - 10 = i by omega]
        simp [shp]
      · rw [if_neg e, m1 k hk]
        congr 1
        refine (slot_other (fun n hn hn2 => ?_) (fun _ _ => rfl)).symm
        show (l.setIfInBounds i true).getD n false = _
        rw [hL]
        have : (n == i) = false := beq_eq_false_iff_ne.2 (by omega)
        rw [this]
        rfl
    · rw [hL] at hl
      have : (7 + j == i) = false := beq_eq_false_iff_ne.2 (by omega)
      rw [this, Bool.false_or] at hl
      obtain ⟨r1, r2⟩ := m2 j hj hl
      rw [hL, show (14 + j == i) = false from beq_eq_false_iff_ne.2 (by omega), Bool.false_or]
      exact ⟨r1, r2⟩
    · rw [hL, show (7 + j == i) = false from beq_eq_false_iff_ne.2 (by omega), Bool.false_or] at h1
      rw [hL, show (7 + k == i) = false from beq_eq_false_iff_ne.2 (by omega), Bool.false_or] at h2
      exact m3 j k hj hk h1 h2
  · unfold Oper.wp
    rw [ex_alloc hop, Oper.upon_value, hd]
    have h14 : l.getD (14 + j) false = false := by
      cases hq : l.getD (14 + j) false with
      | false => rfl
      | true => rw [h.dep j hj hq] at hff; cases hff
    have hsz := h.fr.size
    refine hK _ _ ⟨by simpa using h.size, by simpa [Act.put] using h.len, by simpa [Act.put] using h.defs, h.src.alloc _, h.fr.alloc _, fun k hk hl => ?_, fun k => if k = j then w.heap.size else g k, fun k hk => ?_, fun k hk hl => ?_, fun k n hk hn h1 h2 he => ?_⟩
    · rw [hL, show (14 + k == 7 + j) = false from beq_eq_false_iff_ne.2 (by omega), Bool.false_or] at hl
      rw [hL, h.dep k hk hl]
      simp
    · rw [put_at (by rw [h.len]; omega)]
      by_cases e : k = j + 2
      · rw [if_pos e]
        unfold shSlot
        rw [if_neg (by omega), if_neg (by omega), if_pos (by omega)]
        simp only [hL]
        rw [show k + 5 = 7 + j by omega]
        simp [show k - 2 = j by omega]
      · rw [if_neg e, m1 k hk]
        congr 1
        refine (slot_other (fun n hn hn2 => ?_) (fun n hn => ?_)).symm
        · show (l.setIfInBounds (7 + j) true).getD n false = _
          rw [hL]
          have : (n == 7 + j) = false := beq_eq_false_iff_ne.2 (by omega)
          rw [this]
          rfl
        · show (if n = j then w.heap.size else g n) = g n
          rw [if_neg (by omega)]
    · rw [hL, show (14 + k == 7 + j) = false from beq_eq_false_iff_ne.2 (by omega), Bool.false_or]
      show w0.heap.size ≤ (if k = j then w.heap.size else g k) ∧ Blk _ (if k = j then w.heap.size else g k) _ _
      by_cases e : k = j
      · subst e
        rw [if_pos rfl, h14]
        exact ⟨hsz, Blk.new w _ _⟩
      · rw [if_neg e]
        rw [hL, show (7 + k == 7 + j) = false from beq_eq_false_iff_ne.2 (by omega), Bool.false_or] at hl
        obtain ⟨r1, r2⟩ := m2 k hk hl
        exact ⟨r1, r2.alloc _⟩
    · have ho : ∀ k, k < 7 → k ≠ j → (l.setIfInBounds (7 + j) true).getD (7 + k) false = true → g k < w.heap.size ∧ l.getD (7 + k) false = true := fun k hk hne hl => by
        rw [hL, show (7 + k == 7 + j) = false from beq_eq_false_iff_ne.2 (by omega), Bool.false_or] at hl
        exact ⟨(m2 k hk hl).2.lt, hl⟩
      simp only at he
      by_cases e1 : k = j
      · by_cases e2 : n = j
        · omega
        · rw [if_pos e1, if_neg e2] at he
          have := (ho n hn e2 h2).1
          omega
      · by_cases e2 : n = j
        · rw [if_neg e1, if_pos e2] at he
          have := (ho k hk e1 h1).1
          omega
        · rw [if_neg e1, if_neg e2] at he
          exact m3 k n hk hn (ho k hk e1 h1).2 (ho n hn e2 h2).2 he
  · have l7 : l.getD (7 + j) false = true := by rw [← he2]; exact hall e1 he1 he3
    have l0 : l.getD j false = true := by rw [← he5]; exact hall e4 he4 he6
    obtain ⟨r1, r2⟩ := m2 j hj l7
    rw [hff] at r2
    have x1 : a.eval (.tmp (j + 2)) = .pointer (some ⟨g j, 0, none⟩) := by
      refine eval_at ((m1 (j + 2) (by omega)).trans ?_)
      unfold shSlot
      rw [if_neg (by omega), if_neg (by omega), if_pos (by omega), show j + 2 + 5 = 7 + j by omega]
      simp [l7, show j + 2 - 2 = j by omega]
    have x2 : a.eval (.tmp (10 + j)) = .agg (shp c0 c1 c2 c3 c4 c5 c6) := by
      refine eval_at ((m1 (10 + j) (by omega)).trans ?_)
      unfold shSlot
      rw [if_neg (by omega), if_neg (by omega), if_neg (by omega), if_neg (by omega), if_pos (by omega), show 10 + j - 10 = j by omega]
      simp [l0]
    refine wp_store_row 127 _ _ hop (g j) (shp c0 c1 c2 c3 c4 c5 c6) x1 x2 127 zs7 r2 (by kernel_rfl) rfl (oneF _ _ _ _ _ _ _) ?_
    have hpg : p ≠ g j := by omega
    have hfr : Fr (At1 (g j)) w (w.setRow (g j) (shp c0 c1 c2 c3 c4 c5 c6)) := Fr.setRow (S := At1 (g j)) (Fr.refl _ w) (fun _ => rfl) _
    rw [hd]
    refine hK _ _ ⟨by simpa using h.size, h.len, h.defs, h.src.fr hfr hpg, h.fr.setRow (fun hlt => by omega) _, fun k hk hl => ?_, g, fun k hk => ?_, fun k hk hl => ?_, fun k n hk hn h1 h2 he => ?_⟩
    · rw [hL, show (7 + k == 14 + j) = false from beq_eq_false_iff_ne.2 (by omega), Bool.false_or]
      by_cases e : k = j
      · subst e; exact l7
      · rw [hL, show (14 + k == 14 + j) = false from beq_eq_false_iff_ne.2 (by omega), Bool.false_or] at hl
        exact h.dep k hk hl
    · show a.tmps[k]? = _
      rw [m1 k hk]
      congr 1
      refine (slot_other (fun n hn hn2 => ?_) (fun _ _ => rfl)).symm
      show (l.setIfInBounds (14 + j) true).getD n false = _
      rw [hL]
      have : (n == 14 + j) = false := beq_eq_false_iff_ne.2 (by omega)
      rw [this]
      rfl
    · rw [hL, show (7 + k == 14 + j) = false from beq_eq_false_iff_ne.2 (by omega), Bool.false_or] at hl
      obtain ⟨s1, s2⟩ := m2 k hk hl
      refine ⟨s1, ?_⟩
      by_cases e : k = j
      · subst e
        rw [hL, show (14 + k == 14 + k) = true from beq_self_eq_true _, Bool.true_or, if_pos rfl]
        exact setRow_heap w (g k) _ _ _ _ r2
      · rw [hL, show (14 + k == 14 + j) = false from beq_eq_false_iff_ne.2 (by omega), Bool.false_or]
        exact s2.fr hfr (fun e2 => e (m3 k j hk hj hl l7 e2))
    · rw [hL, show (7 + k == 14 + j) = false from beq_eq_false_iff_ne.2 (by omega), Bool.false_or] at h1
      rw [hL, show (7 + n == 14 + j) = false from beq_eq_false_iff_ne.2 (by omega), Bool.false_or] at h2
      exact m3 k n hk hn h1 h2 he

def shFrame (p : Nat) (E : Array Value) (g : Nat → Nat) : Array Value :=
  #[.map none, .pointer (some ⟨p, 0, none⟩), .pointer (some ⟨g 0, 0, none⟩), .pointer (some ⟨g 1, 0, none⟩), .pointer (some ⟨g 2, 0, none⟩), .pointer (some ⟨g 3, 0, none⟩), .pointer (some ⟨g 4, 0, none⟩), .pointer (some ⟨g 5, 0, none⟩), .pointer (some ⟨g 6, 0, none⟩), .agg E,
    .agg E, .agg E, .agg E, .agg E, .agg E, .agg E, .agg E, undef, undef, undef, undef, undef, undef, undef, undef, undef, undef, undef, undef, undef, undef, undef, undef, undef, undef, undef, undef, undef, undef, undef, undef, undef]
theorem sh_region {w : World} {p : Nat} {Q : Exit → Act → World → Prop} {c0 c1 c2 c3 c4 c5 c6 : FuncId} (hb : Blk w p 127 (shp c0 c1 c2 c3 c4 c5 c6))
    (hQ : ∀ (g : Nat → Nat) w', (∀ j, j < 7 → w.heap.size ≤ g j ∧ Blk w' (g j) 127 (shp c0 c1 c2 c3 c4 c5 c6)) → (∀ j k, j < 7 → k < 7 → g j = g k → j = k) → Fr No w w' → Q .normal ⟨shFrame p (shp c0 c1 c2 c3 c4 c5 c6) g, []⟩ w') :
    Code.wp Tryz.prog sh2 Q ⟨#[.map none, .pointer (some ⟨p, 0, none⟩), undef, undef, undef, undef, undef, undef, undef, .agg (shp c0 c1 c2 c3 c4 c5 c6),
      undef, undef, undef, undef, undef, undef, undef, undef, undef, undef, undef, undef, undef, undef, undef, undef, undef, undef, undef, undef, undef, undef, undef, undef, undef, undef, undef, undef, undef, undef, undef, undef], []⟩ w := by
  have e : sh2 = .region 2 (opsOf sh2) true := by kernel_rfl
  rw [e]
  refine wp_region_inv (by kernel_rfl) (ShInv w p (shp c0 c1 c2 c3 c4 c5 c6)) (fun l a w' h => by rw [h.size, sh2_size]) (fun i o ho => okB_back (sh2_at ho)) (fun l a w' i o h ho hf hall => sh_step hb.lt l a w' i o h ho hf hall) (fun l a w' h hl => ?_) ?_
  · rw [sh2_size] at hl
    obtain ⟨g, m1, m2, m3⟩ := h.mem
    have ha : a = ⟨shFrame p (shp c0 c1 c2 c3 c4 c5 c6) g, []⟩ := by
      obtain ⟨ts, ds⟩ := a
      have hd := h.defs
      have hlen := h.len
      simp only at hd hlen m1
      subst hd
      congr 1
      refine Array.ext (by rw [hlen]; rfl) fun k hk hk2 => ?_
      have h1 := m1 k (by omega)
      rw [Array.getElem?_eq_getElem hk] at h1
      injection h1 with h1
      rw [h1]
      have hk3 : k < 42 := by omega
      clear h1 hk m1 m2 m3 hQ h e hb
      match k, hk3 with
      | 0, _ | 1, _ | 9, _ | 17, _ | 18, _ | 19, _ | 20, _ | 21, _ | 22, _ | 23, _ | 24, _ | 25, _ | 26, _ | 27, _ | 28, _ | 29, _ | 30, _ | 31, _ | 32, _ | 33, _ | 34, _ | 35, _ | 36, _ | 37, _ | 38, _ | 39, _ | 40, _ | 41, _ => rfl
      | 2, _ => simp [shSlot, shFrame, hl 7 (by omega)]
      | 3, _ => simp [shSlot, shFrame, hl 8 (by omega)]
      | 4, _ => simp [shSlot, shFrame, hl 9 (by omega)]
      | 5, _ => simp [shSlot, shFrame, hl 10 (by omega)]
      | 6, _ => simp [shSlot, shFrame, hl 11 (by omega)]
      | 7, _ => simp [shSlot, shFrame, hl 12 (by omega)]
      | 8, _ => simp [shSlot, shFrame, hl 13 (by omega)]
      | 10, _ => simp [shSlot, shFrame, hl 0 (by omega)]
      | 11, _ => simp [shSlot, shFrame, hl 1 (by omega)]
      | 12, _ => simp [shSlot, shFrame, hl 2 (by omega)]
      | 13, _ => simp [shSlot, shFrame, hl 3 (by omega)]
      | 14, _ => simp [shSlot, shFrame, hl 4 (by omega)]
      | 15, _ => simp [shSlot, shFrame, hl 5 (by omega)]
      | 16, _ => simp [shSlot, shFrame, hl 6 (by omega)]
      | n + 42, h => exact absurd h (by omega)
    rw [ha]
    refine hQ g w' (fun j hj => ?_) (fun j k hj hk => m3 j k hj hk (hl _ (by omega)) (hl _ (by omega))) h.fr
    have h2 := m2 j hj (hl _ (by omega))
    rw [hl (14 + j) (by omega)] at h2
    exact h2
  · rw [sh2_size]
    have hl0 : ∀ n, (Array.replicate 21 false).getD n false = false := fun n => by
      rcases Nat.lt_or_ge n 21 with h | h
      · simp [h]
      · simp [h]
    refine ⟨by simp, rfl, rfl, hb.drew, (Fr.refl No w).drew, fun j hj hl => (by rw [hl0] at hl; cases hl), fun _ => 0, fun k hk => ?_, fun j hj hl => (by rw [hl0] at hl; cases hl), fun j k hj hk hl => (by rw [hl0] at hl; cases hl)⟩
    unfold shSlot
    simp only [hl0]
    match k, hk with
    | 0, _ | 1, _ | 2, _ | 3, _ | 4, _ | 5, _ | 6, _ | 7, _ | 8, _ | 9, _ | 10, _ | 11, _ | 12, _ | 13, _ | 14, _ | 15, _ | 16, _ | 17, _ | 18, _ | 19, _ | 20, _ | 21, _ | 22, _ | 23, _ | 24, _ | 25, _ | 26, _ | 27, _ | 28, _ | 29, _ | 30, _ | 31, _ | 32, _ | 33, _ | 34, _ | 35, _ | 36, _ | 37, _ | 38, _ | 39, _ | 40, _ | 41, _ => rfl
    | n + 42, h => exact absurd h (by omega)
end Go.Proofs.YtlanhclgbkhdlaaGreat
