/- A map of Ids (two ints) to ints: where each order of a list stands last. Lists, the key, the map in memory. -/
import Derived.Test.YtnphncemghfkbaaChart2
import Derived.DeepKeys4
import Derived.Maps.RangeWalk
import Derived.StringKeys
namespace Go.My
open Go Go.RowKit Go.Maps Go.WideMaps
set_option linter.unusedSimpArgs false
set_option linter.unusedVariables false

/-! ### lists of Ids -/

abbrev Idk := Int × Int
/-- where k stands last -/
def posF (L : List Idk) (k : Idk) : Option Nat := ((List.range L.length).reverse).find? fun i => decide (L[i]? = some k)
theorem posF_nil (k : Idk) : posF [] k = none := rfl
theorem posF_snoc (L : List Idk) (x k : Idk) : posF (L ++ [x]) k = if x = k then some L.length else posF L k := by
  unfold posF
  rw [List.length_append, List.length_singleton, List.range_succ, List.reverse_append, List.reverse_singleton, List.singleton_append, List.find?_cons]
  by_cases e : x = k
  · rw [if_pos e]
    simp [e]
  · rw [if_neg e]
    have h0 : decide ((L ++ [x])[L.length]? = some k) = false := by simp [e]
    rw [h0]
    simp only
    have : ∀ l : List Nat, (∀ i ∈ l, i < L.length) → l.find? (fun i => decide ((L ++ [x])[i]? = some k)) = l.find? (fun i => decide (L[i]? = some k)) := by
      intro l hl
      induction l with
      | nil => rfl
      | cons a r ih =>
        rw [List.find?_cons, List.find?_cons, List.getElem?_append_left (hl a List.mem_cons_self), ih fun i hi => hl i (List.mem_cons_of_mem _ hi)]
    exact this _ fun i hi => by simpa using hi
theorem posF_some {L : List Idk} {k : Idk} {i : Nat} (h : posF L k = some i) : i < L.length ∧ L[i]? = some k := by
  unfold posF at h
  have h1 := List.mem_of_find?_eq_some h
  have h2 := List.find?_some h
  exact ⟨by simpa using h1, by simpa using h2⟩
theorem posF_isSome (L : List Idk) (k : Idk) : (posF L k).isSome = decide (k ∈ L) := by
  unfold posF
  by_cases h : k ∈ L
  · rw [decide_eq_true h, List.find?_isSome]
    obtain ⟨i, hi, he⟩ := List.mem_iff_getElem.1 h
    exact ⟨i, by simpa using hi, by simp [hi, he]⟩
  · rw [decide_eq_false h]
    cases hg : ((List.range L.length).reverse).find? fun i => decide (L[i]? = some k) with
    | none => rfl
    | some i =>
      have h2 := List.find?_some hg
      have h2 : L[i]? = some k := by simpa using h2
      exact absurd (List.mem_of_getElem? h2) h
/-- each Id once -/
def keysF : List Idk → List Idk
  | [] => []
  | x :: r => if x ∈ r then keysF r else x :: keysF r
theorem mem_keysF (L : List Idk) (k : Idk) : k ∈ keysF L ↔ k ∈ L := by
  induction L with
  | nil => exact Iff.rfl
  | cons x r ih =>
    unfold keysF
    split
    · rename_i h
      rw [ih, List.mem_cons]
      exact ⟨.inr, fun e => by rcases e with rfl | e; exact h; exact e⟩
    · rw [List.mem_cons, List.mem_cons, ih]
theorem len_keysF_snoc (L : List Idk) (x : Idk) : (keysF (L ++ [x])).length = if x ∈ L then (keysF L).length else (keysF L).length + 1 := by
  induction L with
  | nil => rfl
  | cons y r ih =>
    rw [List.cons_append]
    unfold keysF
    by_cases hy : y ∈ r
    · rw [if_pos hy, if_pos (List.mem_append_left _ hy), ih]
      by_cases hx : x ∈ r
      · rw [if_pos hx, if_pos (List.mem_cons_of_mem _ hx)]
      · rw [if_neg hx, if_neg (fun e => by rcases List.mem_cons.1 e with rfl | e; exact hx hy; exact hx e)]
    · rw [if_neg hy]
      by_cases hxy : y = x
      · subst hxy
        rw [if_pos (List.mem_append_right _ List.mem_cons_self), if_pos List.mem_cons_self, ih, if_neg hy, List.length_cons]
      · rw [if_neg (fun e => by rcases List.mem_append.1 e with e | e; exact hy e; exact hxy (by simpa using e)), List.length_cons, ih]
        by_cases hx : x ∈ r
        · rw [if_pos hx, if_pos (List.mem_cons_of_mem _ hx), List.length_cons]
        · rw [if_neg hx, if_neg (fun e => by rcases List.mem_cons.1 e with e | e; exact hxy e.symm; exact hx e), List.length_cons]
theorem len_keysF_le (L : List Idk) : (keysF L).length ≤ L.length := by
  induction L with
  | nil => exact Nat.le_refl _
  | cons x r ih =>
    unfold keysF
    split
    · rw [List.length_cons]; omega
    · rw [List.length_cons, List.length_cons]; omega
theorem len_keysF_iff (L : List Idk) : (keysF L).length = L.length ↔ L.Nodup := by
  induction L with
  | nil => exact ⟨fun _ => List.nodup_nil, fun _ => rfl⟩
  | cons x r ih =>
    have hle := len_keysF_le r
    unfold keysF
    rw [List.nodup_cons]
    split
    · rename_i h
      exact ⟨fun e => by rw [List.length_cons] at e; omega, fun e => absurd h e.1⟩
    · rename_i h
      rw [List.length_cons, List.length_cons]
      exact ⟨fun e => ⟨h, ih.1 (by omega)⟩, fun e => by rw [ih.2 e.2]⟩

/-! ### the key -/

theorem wfI_ {n : Int} : (Lit.int .i64 n).wf = true ↔ In64 n := by
  unfold In64 Lit.wf IntKind.min IntKind.max
  simp [IntKind.signed, IntKind.bits]
theorem litsI {P : Program} {t : TypeId} (ht : P.underlying t = some (.int .i64)) (m : Nat) (v : Value) (L : List Lit) : P.keyLits (m + 1) t [v] = some L ↔ ∃ n : Int, v = .int .i64 n ∧ In64 n ∧ L = [.int .i64 n] := by
  unfold Program.keyLits
  rw [ht]
  constructor
  · intro h
    cases v <;> simp at h
    obtain ⟨⟨rfl, h⟩, rfl⟩ := h
    exact ⟨_, rfl, wfI_.1 h, rfl⟩
  · rintro ⟨s, rfl, hs, rfl⟩
    simp [wfI_.2 hs]
/-- a key of two ints -/
structure IdKey (P : Program) (k : TypeId) (f0 f1 : Field) : Prop where
  under : P.underlying k = some (.struct #[f0, f1])
  o0 : f0.offset = 0
  o1 : f1.offset = 1
  n0 : ¬ f0.name = "_"
  n1 : ¬ f1.name = "_"
  cells : P.cellsOf k = 2
  c0 : P.cellsOf f0.type = 1
  c1 : P.cellsOf f1.type = 1
  int0 : P.underlying f0.type = some (.int .i64)
  int1 : P.underlying f1.type = some (.int .i64)
  key : P.keyType k = true
  size : 0 < P.types.size
def ki (k : Idk) : Lit := .string (keyBytes [.int .i64 k.1, .int .i64 k.2])
theorem isKey_ki (k : Idk) : WideAt.IsKeyLit (ki k) := isKey_str _
def IdOk (k : Idk) : Prop := In64 k.1 ∧ In64 k.2
def KiInj : Prop := ∀ a b, IdOk a → IdOk b → ki a = ki b → a = b
section
variable {P : Program} {k : TypeId} {f0 f1 : Field}
theorem keyLits_two (h : IdKey P k f0 f1) (m : Nat) (cs : List Value) :
    P.keyLits (m + 1) k cs = if cs.length = 2 then (P.keyLits m f0.type (cs.take 1)).bind fun l1 => (P.keyLits m f1.type ((cs.drop 1).take 1)).map fun l2 => [l1, l2].flatten else none := by
  conv => lhs; unfold Program.keyLits
  simp only [h.under, h.cells]
  by_cases hc : cs.length = 2
  · rw [if_pos ⟨hc, by simpa using ⟨h.n0, h.n1⟩⟩, if_pos hc]
    simp only [List.mapM_cons, List.mapM_nil, h.o0, h.o1, h.c0, h.c1, List.drop_zero]
    cases P.keyLits m f0.type (cs.take 1) with
    | none => rfl
    | some l1 =>
      cases P.keyLits m f1.type ((cs.drop 1).take 1) with
      | none => rfl
      | some l2 => rfl
  · rw [if_neg (fun e => hc e.1), if_neg hc]
theorem keyLits_id (hp : IdKey P k f0 f1) (m : Nat) (cs : List Value) (L : List Lit) : P.keyLits (m + 1 + 1) k cs = some L ↔ ∃ s n : Int, cs = [.int .i64 s, .int .i64 n] ∧ In64 s ∧ In64 n ∧ L = [.int .i64 s, .int .i64 n] := by
  rw [keyLits_two hp]
  constructor
  · intro h
    split at h
    · rename_i hl
      match cs, hl with
      | [x, y], _ =>
        simp only [List.take_succ_cons, List.take_zero, List.drop_succ_cons, List.drop_zero, Option.bind_eq_some_iff, Option.map_eq_some_iff] at h
        obtain ⟨l1, h1, l2, h2, rfl⟩ := h
        obtain ⟨s, rfl, hs, rfl⟩ := (litsI hp.int0 m x l1).1 h1
        obtain ⟨n, rfl, hn, rfl⟩ := (litsI hp.int1 m y l2).1 h2
        exact ⟨s, n, rfl, hs, hn, rfl⟩
    · cases h
  · rintro ⟨s, n, rfl, hs, hn, rfl⟩
    rw [if_pos (show [Value.int .i64 s, Value.int .i64 n].length = 2 from rfl)]
    simp only [List.take_succ_cons, List.take_zero, List.drop_succ_cons, List.drop_zero, (litsI hp.int0 m _ _).2 ⟨s, rfl, hs, rfl⟩, (litsI hp.int1 m _ _).2 ⟨n, rfl, hn, rfl⟩]
    rfl
theorem IdKey.some_size (hp : IdKey P k f0 f1) : ∃ m, P.types.size = m + 1 := ⟨P.types.size - 1, by have := hp.size; omega⟩
theorem IdKey.wide (hp : IdKey P k f0 f1) : (match P.underlying k with | some (.array _ _) | some (.struct _) => true | _ => false) = true := by rw [hp.under]
theorem IdKey.of (hp : IdKey P k f0 f1) {a : Idk} (ha : IdOk a) : keyOf P k (.agg #[.int .i64 a.1, .int .i64 a.2]) = some (ki a) := by
  obtain ⟨m, hm⟩ := hp.some_size
  have h := (keyLits_id hp m [.int .i64 a.1, .int .i64 a.2] _).2 ⟨a.1, a.2, rfl, ha.1, ha.2, rfl⟩
  have hf : (Value.agg #[.int .i64 a.1, .int .i64 a.2]).formed P k = true := by
    unfold Value.formed
    rw [hp.under, hp.cells]
    rfl
  unfold keyOf
  rw [hp.under]
  simp only []
  rw [hp.key, hf, if_pos (show (true && true) = true from rfl), hm]
  show (P.keyLits (m + 1 + 1) k [.int .i64 a.1, .int .i64 a.2]).map _ = _
  rw [h]
  rfl
theorem IdKey.inv (hp : IdKey P k f0 f1) {v : Value} {l : Lit} (h : keyOf P k v = some l) : ∃ a : Idk, v = .agg #[.int .i64 a.1, .int .i64 a.2] ∧ IdOk a ∧ l = ki a := by
  obtain ⟨xs, L, rfl, h1, rfl⟩ := keyOf_top hp.wide h
  obtain ⟨m, hm⟩ := hp.some_size
  rw [hm] at h1
  obtain ⟨s, n, h2, hs, hn, rfl⟩ := (keyLits_id hp m _ _).1 h1
  refine ⟨(s, n), ?_, ⟨hs, hn⟩, rfl⟩
  rw [← h2]
theorem IdKey.apart (hp : IdKey P k f0 f1) (hk : Keyed P k) : KiInj := by
  intro a b ha hb he
  have h1 := hp.of ha
  have h2 := hp.of hb
  rw [he] at h1
  have h2 := hk.inj h1 h2
  simp only [Value.agg.injEq, Array.mk.injEq, List.cons.injEq, Value.int.injEq, and_true, true_and] at h2
  exact Prod.ext h2.1 h2.2
end

/-! ### how a map of them reads -/

structure RepI (D : DataW Unit) (L : List Idk) : Prop where
  tidy : Tidy D
  size : Maps.size D = (keysF L).length
  has : ∀ a, IdOk a → Maps.has D (ki a) = (posF L a).isSome
  look : ∀ a, IdOk a → ∀ z, D.atKey (ki a) z = match posF L a with | some i => .lit (.int .i64 i) | none => z
theorem RepI.nil : RepI (.map []) [] := ⟨tidy_empty, rfl, fun _ _ => rfl, fun _ _ _ => rfl⟩
theorem RepI.put (hi : KiInj) {D : DataW Unit} {L : List Idk} (h : RepI D L) (x : Idk) (hx : IdOk x) : RepI (D.put (ki x) (.lit (.int .i64 L.length))) (L ++ [x]) := by
  refine ⟨h.tidy.put (isKey_ki _) _, ?_, fun a ha => ?_, fun a ha z => ?_⟩
  · rw [size_put h.tidy, h.has _ hx, posF_isSome, h.size, len_keysF_snoc]
    by_cases e : x ∈ L
    · simp [e]
    · simp [e]
  · rw [posF_snoc]
    by_cases e : x = a
    · subst e
      rw [has_put_same h.tidy.isMap (isKey_ki _), if_pos rfl]
      rfl
    · rw [has_put_other (fun e2 => e (hi _ _ ha hx e2).symm), h.has a ha, if_neg e]
  · rw [posF_snoc]
    by_cases e : x = a
    · subst e
      rw [atKey_put_same h.tidy.isMap (isKey_ki _), if_pos rfl]
    · rw [atKey_put_other (fun e2 => e (hi _ _ ha hx e2).symm), h.look a ha, if_neg e]
end Go.My
namespace Go.Proofs.Ytnphncemghfkbaa
open Go.RowKit Go.My Go.Maps Go.WideMaps
set_option linter.unusedSimpArgs false
set_option linter.unusedVariables false

theorem fr_grownI {w w' : World} {r : Nat} (h : w.grownBy w' (some r)) : Fr (At1 r) w w' := ⟨h.os, h.tape, h.output, h.size, fun k hk hn => h.block k hk (fun e => hn (by injection e))⟩
theorem laidI : laidOutB Try.prog = true := by kernel_rfl
theorem rowI : (27 : TypeId) < Try.prog.types.size := of_decide_eq_true (by kernel_rfl)
theorem lawI : KeyLaw Try.prog 27 := deep_law_laid laidI (m := 3) (by omega) rowI (by kernel_rfl) (by rw [Try.underlying27])
theorem keyedI : Keyed Try.prog 27 := Keyed.of_law lawI
theorem idKey : ∃ f0 f1, IdKey Try.prog 27 f0 f1 := ⟨_, _, {
  under := Try.underlying27
  o0 := rfl
  o1 := rfl
  n0 := by decide
  n1 := by decide
  cells := by kernel_rfl
  c0 := by kernel_rfl
  c1 := by kernel_rfl
  int0 := Try.underlying3
  int1 := Try.underlying3
  key := by kernel_rfl
  size := of_decide_eq_true (by kernel_rfl) }⟩
theorem key_id {a : Idk} (ha : IdOk a) : keyOf Try.prog 27 (.agg #[.int .i64 a.1, .int .i64 a.2]) = some (ki a) := by
  obtain ⟨f0, f1, hp⟩ := idKey
  exact hp.of ha
theorem kiInj : KiInj := by
  obtain ⟨f0, f1, hp⟩ := idKey
  exact hp.apart keyedI
noncomputable abbrev idR : Value → Option (DataW Unit × List MemPlace) := plainElem Try.prog 3
theorem idR_mk {n : Int} (h : In64 n) : idR (.int .i64 n) = some (.lit (.int .i64 n), []) := plainElem_int Try.underlying3 (wfI_.2 h)
/-- block m is a map that says where each of L's Ids stands last -/
structure IMp (w : World) (m : Nat) (L : List Idk) : Prop where
  own : ∃ D, w.ownsMap Try.prog 27 idR m L.length D ∧ RepI D L
section
variable {w w' : World} {m : Nat} {L : List Idk}
theorem IMp.lt (h : IMp w m L) : m < w.heap.size := by
  obtain ⟨D, hD, _⟩ := h.own
  exact hD.lt
theorem IMp.fr {F : Nat → Prop} (h : IMp w m L) (hf : Fr F w w') (hn : ¬ F m) : IMp w' m L := by
  obtain ⟨D, ⟨es, clock, hb, r⟩, hR⟩ := h
  exact ⟨D, ⟨es, clock, (hf.block m (Array.getElem?_eq_some_iff.1 hb).1 hn).trans hb, r⟩, hR⟩
theorem IMp.ne_ {g : Nat} {t : TypeId} {cs : Array Value} (h : IMp w m L) (hg : Blk w g t cs) : m ≠ g := by
  rintro rfl
  obtain ⟨D, ⟨es, clock, hb, _⟩, _⟩ := h
  unfold Blk at hg
  rw [hb] at hg
  cases hg
def posO : Option Nat → Int
  | some i => i
  | none => 0
theorem zeroId (w : World) : (zeroValue 3).run Try.prog w = .ok (.int .i64 0) w := by kernel_rfl
theorem IMp.val (h : IMp w m L) (a : Idk) (ha : IdOk a) : ∃ c : Int, (match posF L a with | some i => (DataW.lit (.int .i64 (i : Int)) : DataW Unit) | none => .lit (.int .i64 0)) = .lit (.int .i64 (posO (posF L a))) := by
  cases posF L a with
  | none => exact ⟨0, rfl⟩
  | some i => exact ⟨0, rfl⟩
theorem IMp.look (h : IMp w m L) (a : Idk) (ha : IdOk a) :
    (Instr.lookup 49 (.map (some m)) (.agg #[.int .i64 a.1, .int .i64 a.2]) true).run Try.prog w = .ok (.tuple #[.int .i64 (posO (posF L a)), .bool (posF L a).isSome]) w := by
  obtain ⟨D, hD, hR⟩ := h.own
  obtain ⟨v, ps, hrun, hv⟩ := hD.look_ok keyedI Try.underlying49 (zeroId w) (idR_mk (show In64 0 by unfold In64; omega)) (key_id ha)
  rw [hR.has _ ha] at hrun
  rw [hR.look _ ha] at hv
  obtain ⟨c, rfl, hc, hwc⟩ := plainElem_int_inv Try.underlying3 hv
  rw [hrun]
  have : c = posO (posF L a) := by
    cases hg : posF L a with
    | none =>
      rw [hg] at hc
      simp only [Prod.mk.injEq, DataW.lit.injEq, Lit.int.injEq, true_and] at hc
      exact hc.1.symm
    | some i =>
      rw [hg] at hc
      simp only [Prod.mk.injEq, DataW.lit.injEq, Lit.int.injEq, true_and] at hc
      exact hc.1.symm
  rw [this]
theorem IMp.put (h : IMp w m L) (a : Idk) (ha : IdOk a) (hl : L.length < maxLen) (hi : In64 (L.length : Int)) :
    ∃ w', (Instr.mapUpdate 49 (.map (some m)) (.agg #[.int .i64 a.1, .int .i64 a.2]) (.int .i64 L.length)).run Try.prog w = .ok () w' ∧ IMp w' m (L ++ [a]) ∧ Fr (At1 m) w w' := by
  obtain ⟨D, hD, hR⟩ := h.own
  obtain ⟨w', hrun, hown, hgr⟩ := hD.update keyedI Try.underlying49 hl (key_id ha) (idR_mk hi)
  refine ⟨w', hrun, ⟨⟨_, ?_, hR.put kiInj a ha⟩⟩, fr_grownI hgr⟩
  rw [List.length_append]
  exact hown
theorem wpList_putI (w : World) {ops : Array Oper} {rest : List Oper} {o : Oper} {a : Act} {Q : Exit → Act → World → Prop} (hg : o.guard = none) (x y z : Operand) (hop : o.op = Op.mapUpdate 49 x y z)
    {b : Nat} {L : List Idk} (hx : a.eval x = .map (some b)) (h : IMp w b L) (k : Idk) (hy : a.eval y = .agg #[.int .i64 k.1, .int .i64 k.2]) (hz : a.eval z = .int .i64 L.length) (hk : IdOk k) (hl : L.length < maxLen) (hi : In64 (L.length : Int))
    (hK : ∀ w', IMp w' b (L ++ [k]) → Fr (At1 b) w w' → wpList Try.prog ops Q rest (a.put o.dst undef) w') : wpList Try.prog ops Q (o :: rest) a w := by
  refine wpList_plain hg fun K' hK' => ?_
  obtain ⟨w', hrun, r1, r2⟩ := h.put k hk hl hi
  unfold Oper.wp
  simp [execOp, hop, hx, hy, hz, hrun, Result.andThen]
  exact hK' _ _ (hK w' r1 r2)
end
end Go.Proofs.Ytnphncemghfkbaa
