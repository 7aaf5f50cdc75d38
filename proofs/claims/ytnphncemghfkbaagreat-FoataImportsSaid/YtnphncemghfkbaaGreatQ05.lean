/- Orders as they come in and lie in memory: their readers. Contracts of package chart: a chart in memory; New, Open. A map of Ids (two ints) to ints: where each order of a list stands last. Lists, the key, the map in memory. Which orders clash, in lists. Of no walk. slices.Contains of texts; an order marked with its accounts; clash.Clash. Two marked orders clash: the walk. -/
import Derived.Test.YtnphncemghfkbaaGreatQ04
import Derived.Test.YtnphncemghfkbaaGreatQ01
import Derived.Test.YtnphncemghfkbaaGreatQ02
import Derived.Maps.OwnSet
import Derived.Maps.OwnOps
import Derived.DeepKeys4
import Derived.Maps.RangeWalk
import Derived.StringKeys
import Derived.Test.YtnphncemghfkbaaGreatQ03
namespace Go.Proofs.YtnphncemghfkbaaGreat
open Go.RowKit Go.My Go.Maps
set_option linter.unusedSimpArgs false
set_option linter.unusedVariables false
theorem LgS_zero (w : World) (F : Nat → Prop) (A : Option Addr) (c : Nat) (hc : c ≤ maxLen) : LgS w F (.slice A 0 c) [] := ⟨A, c, [], rfl, ⟨by simp, fun h => absurd h (by simp)⟩, ⟨rfl, fun i x hx => by simp at hx⟩, Nat.zero_le _, hc⟩
theorem LgS_nil (w : World) (F : Nat → Prop) : LgS w F (.slice none 0 0) [] := ⟨none, 0, [], rfl, Rd.none_, ⟨rfl, fun i x hx => by simp at hx⟩, Nat.le_refl _, by unfold maxLen; omega⟩
section
open Go.ChangeShapes Go.WideShapes
variable {H : Type} {enc : TypeId × Value → H} {w : World} {base : Nat} {spare : Nat → Bool} {held : Bool}
set_option maxRecDepth 100000 in
theorem open_id {n : Nat} {cs : List Value} {x : DataW H × List MemPlace} (h : DataW.trod enc Tryz.prog w base spare held n 44 cs = some x) : ∃ a b : Int, cs = [.int .i64 a, .int .i64 b] ∧ In64 a ∧ In64 b := by
  obtain ⟨xs, m, _, _, hl, _, hf⟩ := DataW.trod_struct Tryz.underlying44 h
  have hC : Tryz.prog.cellsOf 44 = 2 := by kernel_rfl
  have C3 : Tryz.prog.cellsOf 3 = 1 := by kernel_rfl
  rw [hC] at hl
  match cs, hl with
  | [v0, v1], _ =>
    have f0 : DataW.trod enc Tryz.prog w base spare held m 3 [v0] = xs[0]? := by have := hf 0 _ rfl; simpa [C3] using this
    have f1 : DataW.trod enc Tryz.prog w base spare held m 3 [v1] = xs[1]? := by have := hf 1 _ rfl; simpa [C3] using this
    have g : ∀ i, i < xs.length → ∃ y, xs[i]? = some y := fun i hi => ⟨xs[i], List.getElem?_eq_getElem hi⟩
    have hxl : xs.length = 2 := by assumption
    obtain ⟨y0, e0⟩ := g 0 (by omega)
    obtain ⟨y1, e1⟩ := g 1 (by omega)
    rw [e0] at f0; rw [e1] at f1
    obtain ⟨k0, hk0, _, wk0⟩ := DataW.trod_int Tryz.underlying3 f0
    obtain ⟨k1, hk1, _, wk1⟩ := DataW.trod_int Tryz.underlying3 f1
    simp only [List.cons.injEq, and_true] at hk0 hk1
    subst hk0 hk1
    exact ⟨k0, k1, rfl, bounds_i64 wk0, bounds_i64 wk1⟩
/-- legs that came in are right in kind -/
def OdI (w : World) (o : Od) (v : Value) : Prop := o.ok ∧ (∀ g ∈ o.legs, g.ok) ∧ LgS w (Lt w.heap.size) v o.legs
set_option maxRecDepth 100000 in
theorem open_od {n : Nat} {cs : List Value} {x : DataW H × List MemPlace} (h : DataW.trod enc Tryz.prog w base spare held n 47 cs = some x) : ∃ (o : Od) (v : Value), cs = o.cs v ∧ OdI w o v := by
  obtain ⟨xs, m, _, _, hl, _, hf⟩ := DataW.trod_struct Tryz.underlying47 h
  have hC : Tryz.prog.cellsOf 47 = 10 := by kernel_rfl
  have C0 : Tryz.prog.cellsOf 44 = 2 := by kernel_rfl
  have C1 : Tryz.prog.cellsOf 9 = 1 := by kernel_rfl
  have C2 : Tryz.prog.cellsOf 2 = 1 := by kernel_rfl
  have C3 : Tryz.prog.cellsOf 3 = 1 := by kernel_rfl
  have C4 : Tryz.prog.cellsOf 45 = 1 := by kernel_rfl
  rw [hC] at hl
  match cs, hl with
  | [v0, v1, v2, v3, v4, v5, v6, v7, v8, v9], _ =>
    have f0 : DataW.trod enc Tryz.prog w base spare held m 44 [v0, v1] = xs[0]? := by have := hf 0 _ rfl; simpa [C0, C1, C2, C3, C4] using this
    have f1 : DataW.trod enc Tryz.prog w base spare held m 3 [v2] = xs[1]? := by have := hf 1 _ rfl; simpa [C0, C1, C2, C3, C4] using this
    have f2 : DataW.trod enc Tryz.prog w base spare held m 9 [v3] = xs[2]? := by have := hf 2 _ rfl; simpa [C0, C1, C2, C3, C4] using this
    have f3 : DataW.trod enc Tryz.prog w base spare held m 9 [v4] = xs[3]? := by have := hf 3 _ rfl; simpa [C0, C1, C2, C3, C4] using this
    have f4 : DataW.trod enc Tryz.prog w base spare held m 2 [v5] = xs[4]? := by have := hf 4 _ rfl; simpa [C0, C1, C2, C3, C4] using this
    have f5 : DataW.trod enc Tryz.prog w base spare held m 45 [v6] = xs[5]? := by have := hf 5 _ rfl; simpa [C0, C1, C2, C3, C4] using this
    have f6 : DataW.trod enc Tryz.prog w base spare held m 3 [v7] = xs[6]? := by have := hf 6 _ rfl; simpa [C0, C1, C2, C3, C4] using this
    have f7 : DataW.trod enc Tryz.prog w base spare held m 3 [v8] = xs[7]? := by have := hf 7 _ rfl; simpa [C0, C1, C2, C3, C4] using this
    have f8 : DataW.trod enc Tryz.prog w base spare held m 9 [v9] = xs[8]? := by have := hf 8 _ rfl; simpa [C0, C1, C2, C3, C4] using this
    have g : ∀ i, i < xs.length → ∃ y, xs[i]? = some y := fun i hi => ⟨xs[i], List.getElem?_eq_getElem hi⟩
    have hxl : xs.length = 9 := by assumption
    obtain ⟨y0, e0⟩ := g 0 (by omega)
    obtain ⟨y1, e1⟩ := g 1 (by omega)
    obtain ⟨y2, e2⟩ := g 2 (by omega)
    obtain ⟨y3, e3⟩ := g 3 (by omega)
    obtain ⟨y4, e4⟩ := g 4 (by omega)
    obtain ⟨y5, e5⟩ := g 5 (by omega)
    obtain ⟨y6, e6⟩ := g 6 (by omega)
    obtain ⟨y7, e7⟩ := g 7 (by omega)
    obtain ⟨y8, e8⟩ := g 8 (by omega)
    rw [e0] at f0; rw [e1] at f1; rw [e2] at f2; rw [e3] at f3; rw [e4] at f4; rw [e5] at f5; rw [e6] at f6; rw [e7] at f7; rw [e8] at f8
    obtain ⟨a, b, h01, ha, hb⟩ := open_id f0
    obtain ⟨k2, h2, _, w2⟩ := DataW.trod_int Tryz.underlying3 f1
    obtain ⟨s3, h3, _, w3⟩ := DataW.trod_string Tryz.underlying9 f2
    obtain ⟨s4, h4, _, w4⟩ := DataW.trod_string Tryz.underlying9 f3
    obtain ⟨k5, h5, _, w5⟩ := DataW.trod_int Tryz.underlying2 f4
    obtain ⟨A, c, cells, L, h6, hrd, hlc, hcm, hE⟩ := open_each RdLg Tryz.underlying45 (size := 2) (by kernel_rfl) (by omega) (fun n cs x hx => open_leg hx) f5
    obtain ⟨k7, h7, _, w7⟩ := DataW.trod_int Tryz.underlying3 f6
    obtain ⟨k8, h8, _, w8⟩ := DataW.trod_int Tryz.underlying3 f7
    obtain ⟨s9, h9, _, w9⟩ := DataW.trod_string Tryz.underlying9 f8
    simp only [List.cons.injEq, and_true] at h01 h2 h3 h4 h5 h6 h7 h8 h9
    obtain ⟨h0, h1⟩ := h01
    subst h0 h1 h2 h3 h4 h5 h6 h7 h8 h9
    refine ⟨⟨a, b, k2, s3, s4, k5, L, k7, k8, s9⟩, .slice A L.length c, rfl, ⟨ha, hb, bounds_i64 w2, w3, w4, bounds_i64 w5, bounds_i64 w7, bounds_i64 w8, w9⟩, ?_, A, c, cells, rfl, hrd, hE, hlc, hcm⟩
    intro g hg
    obtain ⟨i, hi, rfl⟩ := List.getElem_of_mem hg
    exact (hE.2 i _ (List.getElem?_eq_getElem hi)).2
set_option maxRecDepth 100000 in
theorem open_odv {r : Reach} {b0 : Nat} {v : Value} {d : DataW H} {p : List MemPlace} (hv : Value.okWide Tryz.prog w r b0 47 v)
    (h : DataW.Trod enc Tryz.prog w 0 (fun _ => true) true 47 v d p) : ∃ (o : Od) (u : Value), v = o.val u ∧ OdI w o u := by
  obtain ⟨cs, rfl, hsz⟩ := okWide_struct Tryz.underlying47 hv
  obtain ⟨fuel, hf⟩ := h
  obtain ⟨o, u, ho, hk⟩ := open_od hf
  refine ⟨o, u, ?_, hk⟩
  obtain ⟨l⟩ := cs
  have ho' : l = o.cs u := by simpa [Value.cells] using ho
  subst ho'
  rfl
end
def Od.few (o : Od) : Od := { o with legs := o.legs.take 10 }
theorem Od.few_ok {o : Od} (h : o.ok) : o.few.ok := h
theorem LgS.take {w : World} {F : Nat → Prop} {A : Option Addr} {L : List Lg} {n c : Nat} (h : LgS w F (.slice A n c) L) (k : Nat) : LgS w F (.slice A (min n k) c) (L.take k) := by
  obtain ⟨A', c', cells, e, hr, hE, h1, h2⟩ := h
  cases e
  refine ⟨A, c, cells.take (min L.length k * 2), by rw [List.length_take, Nat.min_comm], ?_, ?_, by rw [List.length_take]; omega, h2⟩
  · have := hr.take (k := min L.length k) (by omega)
    rw [List.length_take, Nat.min_comm k]
    exact this
  · refine ⟨by rw [List.length_take, List.length_take, hE.1]; omega, fun i x hx => ?_⟩
    have hi : i < (L.take k).length := (List.getElem?_eq_some_iff.1 hx).1
    rw [List.length_take] at hi
    have hx' : L[i]? = some x := by rw [List.getElem?_take] at hx; split at hx <;> simp_all
    have := hE.2 i x hx'
    rw [List.drop_take, List.take_take, Nat.min_eq_left (by omega)]
    exact this
theorem LgS.form {w : World} {F : Nat → Prop} {v : Value} {L : List Lg} (h : LgS w F v L) : ∃ A c, v = .slice A L.length c ∧ L.length ≤ c ∧ c ≤ maxLen := by
  obtain ⟨A, c, cells, e, hr, hE, h1, h2⟩ := h
  exact ⟨A, c, e, h1, h2⟩
theorem LgS.below {w w' : World} {v : Value} {L : List Lg} {B : Nat} (h : LgS w (Lt B) v L) (hb : Below B w w') : LgS w' (Lt B) v L := by
  obtain ⟨A, c, cells, e, hr, hE, h1, h2⟩ := h
  exact ⟨A, c, cells, e, hr.below hb (fun _ h => h), hE, h1, h2⟩
end Go.Proofs.YtnphncemghfkbaaGreat

namespace Go.Proofs.YtnphncemghfkbaaGreat
open Go.RowKit Go.My Go.Maps
set_option linter.unusedSimpArgs false
set_option linter.unusedVariables false

theorem law : Keyed Tryz.prog 9 := string_keyed Tryz.underlying9
def noA : Ac := ⟨[], 0, 0, 0⟩
theorem noA_val : noA.val = .agg #[.string ByteArray.empty, .int .i64 0, .int .i64 0, .int .i64 0] := rfl

/-- block m is a map that holds just these accounts -/
def MpS (w : World) (m : Nat) (S : List Ac) : Prop := w.ownsMap Tryz.prog 9 acR m S.length (dOf S) ∧ Rise S
section
variable {w w' : World} {p m : Nat} {S S' : List Ac}
theorem owns_len {n : Nat} (h : w.ownsMap Tryz.prog 9 acR m n (dOf S)) : w.ownsMap Tryz.prog 9 acR m S.length (dOf S) := by
  obtain ⟨es, clock, hb, F, hs, hD⟩ := h
  refine ⟨es, clock, hb, F, ?_, hD⟩
  have h1 := size_dOf S
  rw [hD, Maps.size_eq, length_sorted, List.length_map] at h1
  simp at h1
  omega
theorem MpS.lt (h : MpS w m S) : m < w.heap.size := h.1.lt
theorem MpS.fr {F : Nat → Prop} (h : MpS w m S) (hf : Fr F w w') (hn : ¬ F m) : MpS w' m S := by
  obtain ⟨⟨es, clock, hb, r⟩, hr⟩ := h
  exact ⟨⟨es, clock, (hf.block m (Array.getElem?_eq_some_iff.1 hb).1 hn).trans hb, r⟩, hr⟩
theorem MpS.ne_ {g : Nat} {t : TypeId} {cs : Array Value} (h : MpS w m S) (hg : Blk w g t cs) : m ≠ g := by
  rintro rfl
  obtain ⟨⟨es, clock, hb, _⟩, _⟩ := h
  unfold Blk at hg
  rw [hb] at hg
  cases hg
theorem key_mk (s : ByteArray) (hs : s.size ≤ maxLen) : keyOf Tryz.prog 9 (.string s) = some (.string s.data.toList) := Go.WideMaps.keyOf_string_mk Tryz.underlying9 hs
end

/-- what Open answers, and what is there then -/
def openE (S : List Ac) (nm : List UInt8) (lim : Int) : Int := if nameB nm = false ∨ lim < 0 then 1 else if (getA S nm).isSome then 7 else if 12 ≤ S.length then 5 else 0
def openS (S : List Ac) (nm : List UInt8) (lim : Int) : List Ac := if openE S nm lim = 0 then putA ⟨nm, 0, 0, lim⟩ S else S

end Go.Proofs.YtnphncemghfkbaaGreat

namespace Go.My
open Go Go.RowKit Go.Maps Go.WideMaps
set_option linter.unusedSimpArgs false
set_option linter.unusedVariables false

/-! ### lists of Ids -/

abbrev Idk := Int × Int
/-- where k stands last -/
def posF (L : List Idk) (k : Idk) : Option Nat := ((List.range L.length).reverse).find? fun i => decide (L[i]? = some k)
theorem posF_nil (k : Idk) : posF [] k = none := rfl
theorem posF_snoc (L : List Idk) (x k : Idk) : posF (L ++ [x]) k = if x = k then some L.length else posF L k := by
  unfold posF
  rw [List.length_append, List.length_singleton, List.range_succ, List.reverse_append, List.reverse_singleton, List.singleton_append, List.find?_cons]
  by_cases e : x = k
  · rw [if_pos e]
    simp [e]
  · rw [if_neg e]
    have h0 : decide ((L ++ [x])[L.length]? = some k) = false := by simp [e]
    rw [h0]
    simp only
    have : ∀ l : List Nat, (∀ i ∈ l, i < L.length) → l.find? (fun i => decide ((L ++ [x])[i]? = some k)) = l.find? (fun i => decide (L[i]? = some k)) := by
      intro l hl
      induction l with
      | nil => rfl
      | cons a r ih =>
        rw [List.find?_cons, List.find?_cons, List.getElem?_append_left (hl a List.mem_cons_self), ih fun i hi => hl i (List.mem_cons_of_mem _ hi)]
    exact this _ fun i hi => by simpa using hi
theorem posF_some {L : List Idk} {k : Idk} {i : Nat} (h : posF L k = some i) : i < L.length ∧ L[i]? = some k := by
  unfold posF at h
  have h1 := List.mem_of_find?_eq_some h
  have h2 := List.find?_some h
  exact ⟨by simpa using h1, by simpa using h2⟩
theorem posF_isSome (L : List Idk) (k : Idk) : (posF L k).isSome = decide (k ∈ L) := by
  unfold posF
  by_cases h : k ∈ L
  · rw [decide_eq_true h, List.find?_isSome]
    obtain ⟨i, hi, he⟩ := List.mem_iff_getElem.1 h
    exact ⟨i, by simpa using hi, by simp [hi, he]⟩
  · rw [decide_eq_false h]
    cases hg : ((List.range L.length).reverse).find? fun i => decide (L[i]? = some k) with
    | none => rfl
    | some i =>
      have h2 := List.find?_some hg
      have h2 : L[i]? = some k := by simpa using h2
      exact absurd (List.mem_of_getElem? h2) h
/-- each Id once -/
def keysF : List Idk → List Idk
  | [] => []
  | x :: r => if x ∈ r then keysF r else x :: keysF r
theorem mem_keysF (L : List Idk) (k : Idk) : k ∈ keysF L ↔ k ∈ L := by
  induction L with
  | nil => exact Iff.rfl
  | cons x r ih =>
    unfold keysF
    split
    · rename_i h
      rw [ih, List.mem_cons]
      exact ⟨.inr, fun e => by rcases e with rfl | e; exact h; exact e⟩
    · rw [List.mem_cons, List.mem_cons, ih]
theorem len_keysF_snoc (L : List Idk) (x : Idk) : (keysF (L ++ [x])).length = if x ∈ L then (keysF L).length else (keysF L).length + 1 := by
  induction L with
  | nil => rfl
  | cons y r ih =>
    rw [List.cons_append]
    unfold keysF
    by_cases hy : y ∈ r
    · rw [if_pos hy, if_pos (List.mem_append_left _ hy), ih]
      by_cases hx : x ∈ r
      · rw [if_pos hx, if_pos (List.mem_cons_of_mem _ hx)]
      · rw [if_neg hx, if_neg (fun e => by rcases List.mem_cons.1 e with rfl | e; exact hx hy; exact hx e)]
    · rw [if_neg hy]
      by_cases hxy : y = x
      · subst hxy
        rw [if_pos (List.mem_append_right _ List.mem_cons_self), if_pos List.mem_cons_self, ih, if_neg hy, List.length_cons]
      · rw [if_neg (fun e => by rcases List.mem_append.1 e with e | e; exact hy e; exact hxy (by simpa using e)), List.length_cons, ih]
        by_cases hx : x ∈ r
        · rw [if_pos hx, if_pos (List.mem_cons_of_mem _ hx), List.length_cons]
        · rw [if_neg hx, if_neg (fun e => by rcases List.mem_cons.1 e with e | e; exact hxy e.symm; exact hx e), List.length_cons]
theorem len_keysF_le (L : List Idk) : (keysF L).length ≤ L.length := by
  induction L with
  | nil => exact Nat.le_refl _
  | cons x r ih =>
    unfold keysF
    split
    · rw [List.length_cons]; omega
    · rw [List.length_cons, List.length_cons]; omega
theorem len_keysF_iff (L : List Idk) : (keysF L).length = L.length ↔ L.Nodup := by
  induction L with
  | nil => exact ⟨fun _ => List.nodup_nil, fun _ => rfl⟩
  | cons x r ih =>
    have hle := len_keysF_le r
    unfold keysF
    rw [List.nodup_cons]
    split
    · rename_i h
      exact ⟨fun e => by rw [List.length_cons] at e; omega, fun e => absurd h e.1⟩
    · rename_i h
      rw [List.length_cons, List.length_cons]
      exact ⟨fun e => ⟨h, ih.1 (by omega)⟩, fun e => by rw [ih.2 e.2]⟩

/-! ### the key -/

theorem wfI_ {n : Int} : (Lit.int .i64 n).wf = true ↔ In64 n := by
  unfold In64 Lit.wf IntKind.min IntKind.max
  simp [IntKind.signed, IntKind.bits]
theorem litsI {P : Program} {t : TypeId} (ht : P.underlying t = some (.int .i64)) (m : Nat) (v : Value) (L : List Lit) : P.keyLits (m + 1) t [v] = some L ↔ ∃ n : Int, v = .int .i64 n ∧ In64 n ∧ L = [.int .i64 n] := by
  unfold Program.keyLits
  rw [ht]
  constructor
  · intro h
    cases v <;> simp at h
    obtain ⟨⟨rfl, h⟩, rfl⟩ := h
    exact ⟨_, rfl, wfI_.1 h, rfl⟩
  · rintro ⟨s, rfl, hs, rfl⟩
    simp [wfI_.2 hs]
/-- a key of two ints -/
structure IdKey (P : Program) (k : TypeId) (f0 f1 : Field) : Prop where
  under : P.underlying k = some (.struct #[f0, f1])
  o0 : f0.offset = 0
  o1 : f1.offset = 1
  n0 : ¬ f0.name = "_"
  n1 : ¬ f1.name = "_"
  cells : P.cellsOf k = 2
  c0 : P.cellsOf f0.type = 1
  c1 : P.cellsOf f1.type = 1
  int0 : P.underlying f0.type = some (.int .i64)
  int1 : P.underlying f1.type = some (.int .i64)
  key : P.keyType k = true
  size : 0 < P.types.size
def ki (k : Idk) : Lit := .string (keyBytes [.int .i64 k.1, .int .i64 k.2])
theorem isKey_ki (k : Idk) : WideAt.IsKeyLit (ki k) := isKey_str _
def IdOk (k : Idk) : Prop := In64 k.1 ∧ In64 k.2
def KiInj : Prop := ∀ a b, IdOk a → IdOk b → ki a = ki b → a = b
section
variable {P : Program} {k : TypeId} {f0 f1 : Field}
theorem keyLits_two (h : IdKey P k f0 f1) (m : Nat) (cs : List Value) :
    P.keyLits (m + 1) k cs = if cs.length = 2 then (P.keyLits m f0.type (cs.take 1)).bind fun l1 => (P.keyLits m f1.type ((cs.drop 1).take 1)).map fun l2 => [l1, l2].flatten else none := by
  conv => lhs; unfold Program.keyLits
  simp only [h.under, h.cells]
  by_cases hc : cs.length = 2
  · rw [if_pos ⟨hc, by simpa using ⟨h.n0, h.n1⟩⟩, if_pos hc]
    simp only [List.mapM_cons, List.mapM_nil, h.o0, h.o1, h.c0, h.c1, List.drop_zero]
    cases P.keyLits m f0.type (cs.take 1) with
    | none => rfl
    | some l1 =>
      cases P.keyLits m f1.type ((cs.drop 1).take 1) with
      | none => rfl
      | some l2 => rfl
  · rw [if_neg (fun e => hc e.1), if_neg hc]
theorem keyLits_id (hp : IdKey P k f0 f1) (m : Nat) (cs : List Value) (L : List Lit) : P.keyLits (m + 1 + 1) k cs = some L ↔ ∃ s n : Int, cs = [.int .i64 s, .int .i64 n] ∧ In64 s ∧ In64 n ∧ L = [.int .i64 s, .int .i64 n] := by
  rw [keyLits_two hp]
  constructor
  · intro h
    split at h
    · rename_i hl
      match cs, hl with
      | [x, y], _ =>
        simp only [List.take_succ_cons, List.take_zero, List.drop_succ_cons, List.drop_zero, Option.bind_eq_some_iff, Option.map_eq_some_iff] at h
        obtain ⟨l1, h1, l2, h2, rfl⟩ := h
        obtain ⟨s, rfl, hs, rfl⟩ := (litsI hp.int0 m x l1).1 h1
        obtain ⟨n, rfl, hn, rfl⟩ := (litsI hp.int1 m y l2).1 h2
        exact ⟨s, n, rfl, hs, hn, rfl⟩
    · cases h
  · rintro ⟨s, n, rfl, hs, hn, rfl⟩
    rw [if_pos (show [Value.int .i64 s, Value.int .i64 n].length = 2 from rfl)]
    simp only [List.take_succ_cons, List.take_zero, List.drop_succ_cons, List.drop_zero, (litsI hp.int0 m _ _).2 ⟨s, rfl, hs, rfl⟩, (litsI hp.int1 m _ _).2 ⟨n, rfl, hn, rfl⟩]
    rfl
theorem IdKey.some_size (hp : IdKey P k f0 f1) : ∃ m, P.types.size = m + 1 := ⟨P.types.size - 1, by have := hp.size; omega⟩
theorem IdKey.wide (hp : IdKey P k f0 f1) : (match P.underlying k with | some (.array _ _) | some (.struct _) => true | _ => false) = true := by rw [hp.under]
theorem IdKey.of (hp : IdKey P k f0 f1) {a : Idk} (ha : IdOk a) : keyOf P k (.agg #[.int .i64 a.1, .int .i64 a.2]) = some (ki a) := by
  obtain ⟨m, hm⟩ := hp.some_size
  have h := (keyLits_id hp m [.int .i64 a.1, .int .i64 a.2] _).2 ⟨a.1, a.2, rfl, ha.1, ha.2, rfl⟩
  have hf : (Value.agg #[.int .i64 a.1, .int .i64 a.2]).formed P k = true := by
    unfold Value.formed
    rw [hp.under, hp.cells]
    rfl
  unfold keyOf
  rw [hp.under]
  simp only []
  rw [hp.key, hf, if_pos (show (true && true) = true from rfl), hm]
  show (P.keyLits (m + 1 + 1) k [.int .i64 a.1, .int .i64 a.2]).map _ = _
  rw [h]
  rfl
theorem IdKey.inv (hp : IdKey P k f0 f1) {v : Value} {l : Lit} (h : keyOf P k v = some l) : ∃ a : Idk, v = .agg #[.int .i64 a.1, .int .i64 a.2] ∧ IdOk a ∧ l = ki a := by
  obtain ⟨xs, L, rfl, h1, rfl⟩ := keyOf_top hp.wide h
  obtain ⟨m, hm⟩ := hp.some_size
  rw [hm] at h1
  obtain ⟨s, n, h2, hs, hn, rfl⟩ := (keyLits_id hp m _ _).1 h1
  refine ⟨(s, n), ?_, ⟨hs, hn⟩, rfl⟩
  rw [← h2]
theorem IdKey.apart (hp : IdKey P k f0 f1) (hk : Keyed P k) : KiInj := by
  intro a b ha hb he
  have h1 := hp.of ha
  have h2 := hp.of hb
  rw [he] at h1
  have h2 := hk.inj h1 h2
  simp only [Value.agg.injEq, Array.mk.injEq, List.cons.injEq, Value.int.injEq, and_true, true_and] at h2
  exact Prod.ext h2.1 h2.2
end

/-! ### how a map of them reads -/

structure RepI (D : DataW Unit) (L : List Idk) : Prop where
  tidy : Tidy D
  size : Maps.size D = (keysF L).length
  has : ∀ a, IdOk a → Maps.has D (ki a) = (posF L a).isSome
  look : ∀ a, IdOk a → ∀ z, D.atKey (ki a) z = match posF L a with | some i => .lit (.int .i64 i) | none => z
theorem RepI.nil : RepI (.map []) [] := ⟨tidy_empty, rfl, fun _ _ => rfl, fun _ _ _ => rfl⟩
theorem RepI.put (hi : KiInj) {D : DataW Unit} {L : List Idk} (h : RepI D L) (x : Idk) (hx : IdOk x) : RepI (D.put (ki x) (.lit (.int .i64 L.length))) (L ++ [x]) := by
  refine ⟨h.tidy.put (isKey_ki _) _, ?_, fun a ha => ?_, fun a ha z => ?_⟩
  · rw [size_put h.tidy, h.has _ hx, posF_isSome, h.size, len_keysF_snoc]
    by_cases e : x ∈ L
    · simp [e]
    · simp [e]
  · rw [posF_snoc]
    by_cases e : x = a
    · subst e
      rw [has_put_same h.tidy.isMap (isKey_ki _), if_pos rfl]
      rfl
    · rw [has_put_other (fun e2 => e (hi _ _ ha hx e2).symm), h.has a ha, if_neg e]
  · rw [posF_snoc]
    by_cases e : x = a
    · subst e
      rw [atKey_put_same h.tidy.isMap (isKey_ki _), if_pos rfl]
    · rw [atKey_put_other (fun e2 => e (hi _ _ ha hx e2).symm), h.look a ha, if_neg e]
end Go.My
namespace Go.Proofs.YtnphncemghfkbaaGreat
open Go.RowKit Go.My Go.Maps Go.WideMaps
set_option linter.unusedSimpArgs false
set_option linter.unusedVariables false

theorem fr_grownI {w w' : World} {r : Nat} (h : w.grownBy w' (some r)) : Fr (At1 r) w w' := ⟨h.os, h.tape, h.output, h.size, fun k hk hn => h.block k hk (fun e => hn (by injection e))⟩
theorem laidI : laidOutB Tryz.prog = true := by kernel_rfl
theorem rowI : (44 : TypeId) < Tryz.prog.types.size := of_decide_eq_true (by kernel_rfl)
theorem lawI : KeyLaw Tryz.prog 44 := deep_law_laid laidI (m := 3) (by omega) rowI (by kernel_rfl) (by rw [Tryz.underlying44])
theorem keyedI : Keyed Tryz.prog 44 := Keyed.of_law lawI
theorem idKey : ∃ f0 f1, IdKey Tryz.prog 44 f0 f1 := ⟨_, _, {
  under := Tryz.underlying44
  o0 := rfl
  o1 := rfl
  n0 := by decide
  n1 := by decide
  cells := by kernel_rfl
  c0 := by kernel_rfl
  c1 := by kernel_rfl
  int0 := Tryz.underlying3
  int1 := Tryz.underlying3
  key := by kernel_rfl
  size := of_decide_eq_true (by kernel_rfl) }⟩
theorem key_id {a : Idk} (ha : IdOk a) : keyOf Tryz.prog 44 (.agg #[.int .i64 a.1, .int .i64 a.2]) = some (ki a) := by
  obtain ⟨f0, f1, hp⟩ := idKey
  exact hp.of ha
theorem kiInj : KiInj := by
  obtain ⟨f0, f1, hp⟩ := idKey
  exact hp.apart keyedI
noncomputable abbrev idR : Value → Option (DataW Unit × List MemPlace) := plainElem Tryz.prog 3
theorem idR_mk {n : Int} (h : In64 n) : idR (.int .i64 n) = some (.lit (.int .i64 n), []) := plainElem_int Tryz.underlying3 (wfI_.2 h)
/-- block m is a map that says where each of L's Ids stands last -/
structure IMp (w : World) (m : Nat) (L : List Idk) : Prop where
  own : ∃ D, w.ownsMap Tryz.prog 44 idR m L.length D ∧ RepI D L
section
variable {w w' : World} {m : Nat} {L : List Idk}
theorem IMp.lt (h : IMp w m L) : m < w.heap.size := by
  obtain ⟨D, hD, _⟩ := h.own
  exact hD.lt
theorem IMp.fr {F : Nat → Prop} (h : IMp w m L) (hf : Fr F w w') (hn : ¬ F m) : IMp w' m L := by
  obtain ⟨D, ⟨es, clock, hb, r⟩, hR⟩ := h
  exact ⟨D, ⟨es, clock, (hf.block m (Array.getElem?_eq_some_iff.1 hb).1 hn).trans hb, r⟩, hR⟩
theorem IMp.ne_ {g : Nat} {t : TypeId} {cs : Array Value} (h : IMp w m L) (hg : Blk w g t cs) : m ≠ g := by
  rintro rfl
  obtain ⟨D, ⟨es, clock, hb, _⟩, _⟩ := h
  unfold Blk at hg
  rw [hb] at hg
  cases hg
def posO : Option Nat → Int
  | some i => i
  | none => 0
theorem zeroId (w : World) : (zeroValue 3).run Tryz.prog w = .ok (.int .i64 0) w := by kernel_rfl
theorem IMp.val (h : IMp w m L) (a : Idk) (ha : IdOk a) : ∃ c : Int, (match posF L a with | some i => (DataW.lit (.int .i64 (i : Int)) : DataW Unit) | none => .lit (.int .i64 0)) = .lit (.int .i64 (posO (posF L a))) := by
  cases posF L a with
  | none => exact ⟨0, rfl⟩
  | some i => exact ⟨0, rfl⟩
theorem IMp.look (h : IMp w m L) (a : Idk) (ha : IdOk a) :
    (Instr.lookup 87 (.map (some m)) (.agg #[.int .i64 a.1, .int .i64 a.2]) true).run Tryz.prog w = .ok (.tuple #[.int .i64 (posO (posF L a)), .bool (posF L a).isSome]) w := by
  obtain ⟨D, hD, hR⟩ := h.own
  obtain ⟨v, ps, hrun, hv⟩ := hD.look_ok keyedI Tryz.underlying87 (zeroId w) (idR_mk (show In64 0 by unfold In64; omega)) (key_id ha)
  rw [hR.has _ ha] at hrun
  rw [hR.look _ ha] at hv
  obtain ⟨c, rfl, hc, hwc⟩ := plainElem_int_inv Tryz.underlying3 hv
  rw [hrun]
  have : c = posO (posF L a) := by
    cases hg : posF L a with
    | none =>
      rw [hg] at hc
      simp only [Prod.mk.injEq, DataW.lit.injEq, Lit.int.injEq, true_and] at hc
      exact hc.1.symm
    | some i =>
      rw [hg] at hc
      simp only [Prod.mk.injEq, DataW.lit.injEq, Lit.int.injEq, true_and] at hc
      exact hc.1.symm
  rw [this]
theorem IMp.put (h : IMp w m L) (a : Idk) (ha : IdOk a) (hl : L.length < maxLen) (hi : In64 (L.length : Int)) :
    ∃ w', (Instr.mapUpdate 87 (.map (some m)) (.agg #[.int .i64 a.1, .int .i64 a.2]) (.int .i64 L.length)).run Tryz.prog w = .ok () w' ∧ IMp w' m (L ++ [a]) ∧ Fr (At1 m) w w' := by
  obtain ⟨D, hD, hR⟩ := h.own
  obtain ⟨w', hrun, hown, hgr⟩ := hD.update keyedI Tryz.underlying87 hl (key_id ha) (idR_mk hi)
  refine ⟨w', hrun, ⟨⟨_, ?_, hR.put kiInj a ha⟩⟩, fr_grownI hgr⟩
  rw [List.length_append]
  exact hown
theorem wpList_putI (w : World) {ops : Array Oper} {rest : List Oper} {o : Oper} {a : Act} {Q : Exit → Act → World → Prop} (hg : o.guard = none) (x y z : Operand) (hop : o.op = Op.mapUpdate 87 x y z)
    {b : Nat} {L : List Idk} (hx : a.eval x = .map (some b)) (h : IMp w b L) (k : Idk) (hy : a.eval y = .agg #[.int .i64 k.1, .int .i64 k.2]) (hz : a.eval z = .int .i64 L.length) (hk : IdOk k) (hl : L.length < maxLen) (hi : In64 (L.length : Int))
    (hK : ∀ w', IMp w' b (L ++ [k]) → Fr (At1 b) w w' → wpList Tryz.prog ops Q rest (a.put o.dst undef) w') : wpList Tryz.prog ops Q (o :: rest) a w := by
  refine wpList_plain hg fun K' hK' => ?_
  obtain ⟨w', hrun, r1, r2⟩ := h.put k hk hl hi
  unfold Oper.wp
  simp [execOp, hop, hx, hy, hz, hrun, Result.andThen]
  exact hK' _ _ (hK w' r1 r2)
end
end Go.Proofs.YtnphncemghfkbaaGreat

namespace Go.Proofs.YtnphncemghfkbaaGreat
open Go.RowKit Go.My Go.Maps
set_option linter.unusedSimpArgs false
set_option linter.unusedVariables false

def Od.id (o : Od) : Idk := (o.cl, o.sq)
def idsO (l : List Od) : List Idk := l.map Od.id
def meetL (x y : List (List UInt8)) : Bool := x.any fun s => decide (s ∈ y)
def clashB (a b : Od) : Bool := decide (a.id = b.id ∨ a.kd = 6 ∨ b.kd = 6 ∨ (a.kd = 1 ∧ b.kd = 1)) || meetL (touchL a) (touchL b)
theorem meetL_iff (x y : List (List UInt8)) : meetL x y = true ↔ ∃ s, s ∈ x ∧ s ∈ y := by
  unfold meetL
  rw [List.any_eq_true]
  exact ⟨fun ⟨s, h, k⟩ => ⟨s, h, of_decide_eq_true k⟩, fun ⟨s, h, k⟩ => ⟨s, h, decide_eq_true k⟩⟩
theorem meetL_comm (x y : List (List UInt8)) : meetL x y = meetL y x := by
  rw [Bool.eq_iff_iff, meetL_iff, meetL_iff]
  exact ⟨fun ⟨s, h, k⟩ => ⟨s, k, h⟩, fun ⟨s, h, k⟩ => ⟨s, k, h⟩⟩
theorem clashB_comm (a b : Od) : clashB a b = clashB b a := by
  unfold clashB
  rw [meetL_comm]
  congr 1
  apply decide_eq_decide.2
  constructor
  · rintro (h | h | h | h)
    · exact .inl h.symm
    · exact .inr (.inr (.inl h))
    · exact .inr (.inl h)
    · exact .inr (.inr (.inr ⟨h.2, h.1⟩))
  · rintro (h | h | h | h)
    · exact .inl h.symm
    · exact .inr (.inr (.inl h))
    · exact .inr (.inl h)
    · exact .inr (.inr (.inr ⟨h.2, h.1⟩))
theorem clashB_self (a : Od) : clashB a a = true := by
  unfold clashB
  rw [decide_eq_true (.inl rfl)]
  rfl
theorem clashB_close (a b : Od) (h : a.kd = 6) : clashB a b = true := by
  unfold clashB
  rw [decide_eq_true (.inr (.inl h))]
  rfl
/-- no Id twice -/
def rightL (l : List Od) : Bool := decide ((idsO l).Nodup)
theorem idsO_snoc (l : List Od) (o : Od) : idsO (l ++ [o]) = idsO l ++ [o.id] := by
  unfold idsO
  rw [List.map_append]
  rfl
theorem idsO_take (l : List Od) {k : Nat} (hk : k < l.length) : idsO (l.take (k + 1)) = idsO (l.take k) ++ [l[k].id] := by
  rw [List.take_succ_eq_append_getElem hk, idsO_snoc]
end Go.Proofs.YtnphncemghfkbaaGreat

namespace Go.Proofs.YtnphncemghfkbaaGreat
open Go.RowKit Go.My Go.Maps
set_option linter.unusedSimpArgs false
set_option linter.unusedVariables false
attribute [local go_sem ↓] Go.wp_at_zero Go.wp_at_succ

def InRel (w : World) (L : List (List UInt8)) (s : List UInt8) (iv : Value) (wr : World) : Prop := ∃ k : Nat, k ≤ L.length ∧ iv = .int .i64 k ∧ (∀ x ∈ L.take k, x ≠ s) ∧ wr = w
set_option maxRecDepth 100000 in
theorem indexT_any (F : Nat → Prop) (A : Option Addr) (c : Nat) (L : List (List UInt8)) (s : List UInt8) (w : World) (hr : Rd w F 1 A L.length (ts L)) (hl : L.length ≤ 1000000) :
    Calls Tryz.prog 117 #[.slice A L.length c, .string ⟨s.toArray⟩] w fun e w' => (∃ n : Int, e = .returned (.int .i64 n) ∧ (0 ≤ n ↔ s ∈ L)) ∧ w' = w := by
  have HR := Lib.hid hr
  have HL := Lib.hid hl
  clear hr hl
  go_enter Tryz.func117, Tryz.ntmps117
  go_wp2
  go_loopw [8] (fun iv wr => InRel w L s iv wr) (fun iv _ => L.length - (intOf iv).toNat)
  case atStart => exact ⟨0, Nat.zero_le _, rfl, fun x hx => by simp at hx, rfl⟩
  case round =>
    obtain ⟨k, hk, rfl, hno, rfl⟩ := hrel
    have hk62 : (k : Int) < 9223372036854775807 := by have := HL.out; omega
    by_cases hlt : k < L.length
    · obtain ⟨ad, hl, rfl, _, q0⟩ := tsAt HR.out k hlt
      have HTK : Hid (L.take (k + 1) = L.take k ++ [L[k]]) := List.take_succ_eq_append_getElem hlt
      have HM : Hid (L[k] ∈ L) := List.getElem_mem hlt
      have HNO := Lib.hid hno
      have HLT : Hid (k + 1 ≤ L.length) := hlt
      generalize L[k] = x at *
      clear hno
      by_cases hx : x = s
      · subst hx
        go_wp2
        go_ret
        exact ⟨⟨(k : Int), rfl, fun _ => HM.out, fun _ => by omega⟩, rfl⟩
      · have hz1 : (s == x) = false := beq_eq_false_iff_ne.2 (fun e => hx e.symm)
        have hz2 : ((⟨s.toArray⟩ : ByteArray).toList == (⟨x.toArray⟩ : ByteArray).toList) = false := by rw [ByteArray.toList_eq, ByteArray.toList_eq]; exact hz1
        have HX := Lib.hid hx
        clear hx
        go_wp2
        go_roundw
        case rel =>
          refine ⟨k + 1, HLT.out, by go_num, fun y hy => ?_, rfl⟩
          rw [HTK.out, List.mem_append, List.mem_singleton] at hy
          rcases hy with hy | hy
          · exact HNO.out y hy
          · rw [hy]; exact HX.out
        case measure => have := HLT.out; simp [intOf]; omega
    · obtain rfl : k = L.length := by omega
      have HN : Hid (s ∉ L) := by
        rw [List.take_length] at hno
        exact fun h => hno s h rfl
      clear hno
      go_wp2
      go_ret
      exact ⟨⟨-1, rfl, fun h => by omega, fun h => absurd h HN.out⟩, rfl⟩
theorem containsT_any (F : Nat → Prop) (A : Option Addr) (c : Nat) (L : List (List UInt8)) (s : List UInt8) (w : World) (hr : Rd w F 1 A L.length (ts L)) (hl : L.length ≤ 1000000) :
    Calls Tryz.prog 87 #[.slice A L.length c, .string ⟨s.toArray⟩] w fun e w' => e = .returned (.bool (decide (s ∈ L))) ∧ w' = w := by
  have HX := Lib.hid (indexT_any F A c L s w hr hl)
  clear hr hl
  go_enter Tryz.func87, Tryz.ntmps87
  go_wp2_with fail
  refine HX.out.mono ?_
  rintro e w1 ⟨⟨n, rfl, hn⟩, rfl⟩
  have HE : Hid (decide (0 ≤ n) = decide (s ∈ L)) := decide_eq_decide.2 hn
  clear hn HX
  go_wp2
  go_ret
  exact ⟨by rw [← HE.out]; rfl, rfl⟩
theorem fr_set11 (w : World) (g : Nat) (a0 a1 a2 a3 a4 a5 a6 a7 a8 a9 a10 : Value) : Fr (At1 g) w (((((((((((w.setCell ⟨g, 0, none⟩ a0).setCell ⟨g, 1, none⟩ a1).setCell ⟨g, 2, none⟩ a2).setCell ⟨g, 3, none⟩ a3).setCell ⟨g, 4, none⟩ a4).setCell ⟨g, 5, none⟩ a5).setCell ⟨g, 6, none⟩ a6).setCell ⟨g, 7, none⟩ a7).setCell ⟨g, 8, none⟩ a8).setCell ⟨g, 9, none⟩ a9).setCell ⟨g, 10, none⟩ a10) := ((((((((((fr_set w g 0 a0).trans (fr_set _ g 1 a1)).trans (fr_set _ g 2 a2)).trans (fr_set _ g 3 a3)).trans (fr_set _ g 4 a4)).trans (fr_set _ g 5 a5)).trans (fr_set _ g 6 a6)).trans (fr_set _ g 7 a7)).trans (fr_set _ g 8 a8)).trans (fr_set _ g 9 a9)).trans (fr_set _ g 10 a10)
theorem blk_set11 {w : World} {g : Nat} {t : TypeId} {x0 x1 x2 x3 x4 x5 x6 x7 x8 x9 x10 : Value} (h : Blk w g t #[x0, x1, x2, x3, x4, x5, x6, x7, x8, x9, x10]) (a0 a1 a2 a3 a4 a5 a6 a7 a8 a9 a10 : Value) : Blk (((((((((((w.setCell ⟨g, 0, none⟩ a0).setCell ⟨g, 1, none⟩ a1).setCell ⟨g, 2, none⟩ a2).setCell ⟨g, 3, none⟩ a3).setCell ⟨g, 4, none⟩ a4).setCell ⟨g, 5, none⟩ a5).setCell ⟨g, 6, none⟩ a6).setCell ⟨g, 7, none⟩ a7).setCell ⟨g, 8, none⟩ a8).setCell ⟨g, 9, none⟩ a9).setCell ⟨g, 10, none⟩ a10) g t #[a0, a1, a2, a3, a4, a5, a6, a7, a8, a9, a10] := by
  have h0 : Blk (w.setCell ⟨g, 0, none⟩ a0) g t #[a0, x1, x2, x3, x4, x5, x6, x7, x8, x9, x10] := h.set_ 0 a0
  have h1 : Blk ((w.setCell ⟨g, 0, none⟩ a0).setCell ⟨g, 1, none⟩ a1) g t #[a0, a1, x2, x3, x4, x5, x6, x7, x8, x9, x10] := h0.set_ 1 a1
  have h2 : Blk (((w.setCell ⟨g, 0, none⟩ a0).setCell ⟨g, 1, none⟩ a1).setCell ⟨g, 2, none⟩ a2) g t #[a0, a1, a2, x3, x4, x5, x6, x7, x8, x9, x10] := h1.set_ 2 a2
  have h3 : Blk ((((w.setCell ⟨g, 0, none⟩ a0).setCell ⟨g, 1, none⟩ a1).setCell ⟨g, 2, none⟩ a2).setCell ⟨g, 3, none⟩ a3) g t #[a0, a1, a2, a3, x4, x5, x6, x7, x8, x9, x10] := h2.set_ 3 a3
  have h4 : Blk (((((w.setCell ⟨g, 0, none⟩ a0).setCell ⟨g, 1, none⟩ a1).setCell ⟨g, 2, none⟩ a2).setCell ⟨g, 3, none⟩ a3).setCell ⟨g, 4, none⟩ a4) g t #[a0, a1, a2, a3, a4, x5, x6, x7, x8, x9, x10] := h3.set_ 4 a4
  have h5 : Blk ((((((w.setCell ⟨g, 0, none⟩ a0).setCell ⟨g, 1, none⟩ a1).setCell ⟨g, 2, none⟩ a2).setCell ⟨g, 3, none⟩ a3).setCell ⟨g, 4, none⟩ a4).setCell ⟨g, 5, none⟩ a5) g t #[a0, a1, a2, a3, a4, a5, x6, x7, x8, x9, x10] := h4.set_ 5 a5
  have h6 : Blk (((((((w.setCell ⟨g, 0, none⟩ a0).setCell ⟨g, 1, none⟩ a1).setCell ⟨g, 2, none⟩ a2).setCell ⟨g, 3, none⟩ a3).setCell ⟨g, 4, none⟩ a4).setCell ⟨g, 5, none⟩ a5).setCell ⟨g, 6, none⟩ a6) g t #[a0, a1, a2, a3, a4, a5, a6, x7, x8, x9, x10] := h5.set_ 6 a6
  have h7 : Blk ((((((((w.setCell ⟨g, 0, none⟩ a0).setCell ⟨g, 1, none⟩ a1).setCell ⟨g, 2, none⟩ a2).setCell ⟨g, 3, none⟩ a3).setCell ⟨g, 4, none⟩ a4).setCell ⟨g, 5, none⟩ a5).setCell ⟨g, 6, none⟩ a6).setCell ⟨g, 7, none⟩ a7) g t #[a0, a1, a2, a3, a4, a5, a6, a7, x8, x9, x10] := h6.set_ 7 a7
  have h8 : Blk (((((((((w.setCell ⟨g, 0, none⟩ a0).setCell ⟨g, 1, none⟩ a1).setCell ⟨g, 2, none⟩ a2).setCell ⟨g, 3, none⟩ a3).setCell ⟨g, 4, none⟩ a4).setCell ⟨g, 5, none⟩ a5).setCell ⟨g, 6, none⟩ a6).setCell ⟨g, 7, none⟩ a7).setCell ⟨g, 8, none⟩ a8) g t #[a0, a1, a2, a3, a4, a5, a6, a7, a8, x9, x10] := h7.set_ 8 a8
  have h9 : Blk ((((((((((w.setCell ⟨g, 0, none⟩ a0).setCell ⟨g, 1, none⟩ a1).setCell ⟨g, 2, none⟩ a2).setCell ⟨g, 3, none⟩ a3).setCell ⟨g, 4, none⟩ a4).setCell ⟨g, 5, none⟩ a5).setCell ⟨g, 6, none⟩ a6).setCell ⟨g, 7, none⟩ a7).setCell ⟨g, 8, none⟩ a8).setCell ⟨g, 9, none⟩ a9) g t #[a0, a1, a2, a3, a4, a5, a6, a7, a8, a9, x10] := h8.set_ 9 a9
  have h10 : Blk (((((((((((w.setCell ⟨g, 0, none⟩ a0).setCell ⟨g, 1, none⟩ a1).setCell ⟨g, 2, none⟩ a2).setCell ⟨g, 3, none⟩ a3).setCell ⟨g, 4, none⟩ a4).setCell ⟨g, 5, none⟩ a5).setCell ⟨g, 6, none⟩ a6).setCell ⟨g, 7, none⟩ a7).setCell ⟨g, 8, none⟩ a8).setCell ⟨g, 9, none⟩ a9).setCell ⟨g, 10, none⟩ a10) g t #[a0, a1, a2, a3, a4, a5, a6, a7, a8, a9, a10] := h9.set_ 10 a10
  exact h10
/-- a marked order's cells -/
def mkd (o : Od) (v a : Value) : Value := .agg (o.cs v ++ [a]).toArray
theorem mark_any (F : Nat → Prop) (o : Od) (v : Value) (w : World) (hv : LgS w F v o.legs) (hl : o.legs.length ≤ 100000) :
    Calls Tryz.prog 59 #[o.val v] w fun e w' => ∃ A c, e = .returned (mkd o v (.slice A (touchL o).length c)) ∧ Own w' 9 1 (.slice A (touchL o).length c) (touchL o).length (ts (touchL o)) ∧ (touchL o).length ≤ c ∧ c ≤ maxLen ∧ Fr No w w' ∧ ∀ k, (Value.slice A (touchL o).length c).ownBlock = some k → w.heap.size ≤ k := by
  have HT : Hid (∀ W, Fr No w W → Calls Tryz.prog 84 #[o.val v] W (RetOwn W 9 1 none (touchL o).length (ts (touchL o)))) := fun W hW => touches_any F o v W (hv.no hW) hl
  obtain ⟨vB, vd, rfl, -, -⟩ := hv.form
  generalize touchL o = T at *
  generalize o.legs.length = vn at *
  clear hv hl
  obtain ⟨ocl, osq, okd, oac, ope, osm, olg, opr, ohd, ont⟩ := o
  unfold mkd Od.val Od.cs at *
  simp only at HT ⊢
  have hbo := Blk.new w 47 #[.int .i64 ocl, .int .i64 osq, .int .i64 okd, .string oac, .string ope, .int .i64 osm, .slice vB vn vd, .int .i64 opr, .int .i64 ohd, .string ont]
  go_enter Tryz.func59, Tryz.ntmps59
  have hbz := Blk.new (w.alloc (.cells #[.int .i64 ocl, .int .i64 osq, .int .i64 okd, .string oac, .string ope, .int .i64 osm, .slice vB vn vd, .int .i64 opr, .int .i64 ohd, .string ont] 47)) 84 #[.int .i64 0, .int .i64 0, .int .i64 0, .string ⟨#[]⟩, .string ⟨#[]⟩, .int .i64 0, .slice none 0 0, .int .i64 0, .int .i64 0, .string ⟨#[]⟩, .slice none 0 0]
  rw [World.size_alloc] at hbz
  have hbo1 := hbo.alloc (.cells #[.int .i64 0, .int .i64 0, .int .i64 0, .string ⟨#[]⟩, .string ⟨#[]⟩, .int .i64 0, .slice none 0 0, .int .i64 0, .int .i64 0, .string ⟨#[]⟩, .slice none 0 0] 84)
  have hf1 : Fr No w ((w.alloc (.cells #[.int .i64 ocl, .int .i64 osq, .int .i64 okd, .string oac, .string ope, .int .i64 osm, .slice vB vn vd, .int .i64 opr, .int .i64 ohd, .string ont] 47)).alloc (.cells #[.int .i64 0, .int .i64 0, .int .i64 0, .string ⟨#[]⟩, .string ⟨#[]⟩, .int .i64 0, .slice none 0 0, .int .i64 0, .int .i64 0, .string ⟨#[]⟩, .slice none 0 0] 84)) := ((Fr.refl _ _).alloc _).alloc _
  clear hbo
  go_upto_region 1 with (fail)
  generalize (w.alloc (.cells #[.int .i64 ocl, .int .i64 osq, .int .i64 okd, .string oac, .string ope, .int .i64 osm, .slice vB vn vd, .int .i64 opr, .int .i64 ohd, .string ont] 47)).alloc (.cells #[.int .i64 0, .int .i64 0, .int .i64 0, .string ⟨#[]⟩, .string ⟨#[]⟩, .int .i64 0, .slice none 0 0, .int .i64 0, .int .i64 0, .string ⟨#[]⟩, .slice none 0 0] 84) = w2 at *
  have HBZ := Lib.hid hbz
  have HF1 := Lib.hid hf1
  have HX : Hid (∀ W, Fr (At1 (w.heap.size + 1)) w2 W → Fr (At1 (w.heap.size + 1)) w2 W ∧ W.cell? ⟨w.heap.size, 0, none⟩ = some (.int .i64 ocl) ∧ W.cell? ⟨w.heap.size, 1, none⟩ = some (.int .i64 osq) ∧ W.cell? ⟨w.heap.size, 2, none⟩ = some (.int .i64 okd) ∧ W.cell? ⟨w.heap.size, 3, none⟩ = some (.string oac) ∧ W.cell? ⟨w.heap.size, 4, none⟩ = some (.string ope) ∧ W.cell? ⟨w.heap.size, 5, none⟩ = some (.int .i64 osm) ∧ W.cell? ⟨w.heap.size, 6, none⟩ = some (.slice vB vn vd) ∧ W.cell? ⟨w.heap.size, 7, none⟩ = some (.int .i64 opr) ∧ W.cell? ⟨w.heap.size, 8, none⟩ = some (.int .i64 ohd) ∧ W.cell? ⟨w.heap.size, 9, none⟩ = some (.string ont)) := fun W hW => by
    have h1 := hbo1.fr hW (fun e => by have : w.heap.size = w.heap.size + 1 := e; omega)
    exact ⟨hW, h1.cell 0, h1.cell 1, h1.cell 2, h1.cell 3, h1.cell 4, h1.cell 5, h1.cell 6, h1.cell 7, h1.cell 8, h1.cell 9⟩
  have hk0 : Fr (At1 (w.heap.size + 1)) w2 w2.drew := (Fr.refl _ w2).drew
  clear hbz hbo1 hf1
  go_region_held3 (fun W => Fr (At1 (w.heap.size + 1)) w2 W ∧ W.cell? ⟨w.heap.size, 0, none⟩ = some (.int .i64 ocl) ∧ W.cell? ⟨w.heap.size, 1, none⟩ = some (.int .i64 osq) ∧ W.cell? ⟨w.heap.size, 2, none⟩ = some (.int .i64 okd) ∧ W.cell? ⟨w.heap.size, 3, none⟩ = some (.string oac) ∧ W.cell? ⟨w.heap.size, 4, none⟩ = some (.string ope) ∧ W.cell? ⟨w.heap.size, 5, none⟩ = some (.int .i64 osm) ∧ W.cell? ⟨w.heap.size, 6, none⟩ = some (.slice vB vn vd) ∧ W.cell? ⟨w.heap.size, 7, none⟩ = some (.int .i64 opr) ∧ W.cell? ⟨w.heap.size, 8, none⟩ = some (.int .i64 ohd) ∧ W.cell? ⟨w.heap.size, 9, none⟩ = some (.string ont))
    (first
      | (with_reducible refine HX.out _ ?_; with_reducible assumption)
      | (with_reducible refine HX.out _ (Fr.trans ?_ (fr_set11 _ _ _ _ _ _ _ _ _ _ _ _ _)); with_reducible assumption)
      | (with_reducible refine HX.out _ (Fr.drew ?_); with_reducible first | assumption | exact Fr.refl _ w2))
    (first
      | (go_at_call 84; (with_reducible refine (HT.out _ HF1.out.drew).mono ?_); rintro e q1 ⟨v1, rfl, ho1, hg1, hn1⟩; obtain ⟨A1, c1, rfl, hl1, hm1⟩ := ho1.form; have kn := fr_at_none hg1; have ka1 : Fr (At1 (w.heap.size + 1)) w2 q1 := hk0.trans (kn.mono fun _ _ h => False.elim h); have hz := (HBZ.out.drew).fr kn (fun h => h); have y0 := hz.cell 0; have y1 := hz.cell 1; have y2 := hz.cell 2; have y3 := hz.cell 3; have y4 := hz.cell 4; have y5 := hz.cell 5; have y6 := hz.cell 6; have y7 := hz.cell 7; have y8 := hz.cell 8; have y9 := hz.cell 9; have y10 := hz.cell 10; have z0 := hz.frozen 0; have z1 := hz.frozen 1; have z2 := hz.frozen 2; have z3 := hz.frozen 3; have z4 := hz.frozen 4; have z5 := hz.frozen 5; have z6 := hz.frozen 6; have z7 := hz.frozen 7; have z8 := hz.frozen 8; have z9 := hz.frozen 9; have z10 := hz.frozen 10; simp only [List.getElem?_toArray, List.getElem?_cons_zero, List.getElem?_cons_succ] at y0 y1 y2 y3 y4 y5 y6 y7 y8 y9 y10; clear hg1))
  have hd := blk_set11 hz (.int .i64 ocl) (.int .i64 osq) (.int .i64 okd) (.string oac) (.string ope) (.int .i64 osm) (.slice vB vn vd) (.int .i64 opr) (.int .i64 ohd) (.string ont) (.slice A1 T.length c1)
  have hfin := fr_set11 q1 (w.heap.size + 1) (.int .i64 ocl) (.int .i64 osq) (.int .i64 okd) (.string oac) (.string ope) (.int .i64 osm) (.slice vB vn vd) (.int .i64 opr) (.int .i64 ohd) (.string ont) (.slice A1 T.length c1)
  have HDD := Lib.hid hd
  have HO := Lib.hid (ho1.fr hfin (fun k hk e => by
    obtain ⟨cur, hb⟩ := ho1.blk k hk
    exact Blk.ne_ hb hz (by decide) e))
  have HFF : Hid (Fr No w _) := (HF1.out.drew.trans kn).trans' hfin (fun i hi hlt => by have : i = w.heap.size + 1 := hi; omega)
  have HN : Hid (∀ k, (Value.slice A1 T.length c1).ownBlock = some k → w.heap.size ≤ k) := fun k hk => by
    have h1 : w2.heap.size ≤ k := newer_none hn1 k hk
    have h2 := HF1.out.size
    omega
  clear hd hfin hz kn ka1 hn1 ho1 hk0 HX HT y0 y1 y2 y3 y4 y5 y6 y7 y8 y9 y10 z0 z1 z2 z3 z4 z5 z6 z7 z8 z9 z10
  generalize (((((((((((q1.setCell ⟨w.heap.size + 1, 0, none⟩ (.int .i64 ocl)).setCell ⟨w.heap.size + 1, 1, none⟩ (.int .i64 osq)).setCell ⟨w.heap.size + 1, 2, none⟩ (.int .i64 okd)).setCell ⟨w.heap.size + 1, 3, none⟩ (.string oac)).setCell ⟨w.heap.size + 1, 4, none⟩ (.string ope)).setCell ⟨w.heap.size + 1, 5, none⟩ (.int .i64 osm)).setCell ⟨w.heap.size + 1, 6, none⟩ (.slice vB vn vd)).setCell ⟨w.heap.size + 1, 7, none⟩ (.int .i64 opr)).setCell ⟨w.heap.size + 1, 8, none⟩ (.int .i64 ohd)).setCell ⟨w.heap.size + 1, 9, none⟩ (.string ont)).setCell ⟨w.heap.size + 1, 10, none⟩ (.slice A1 T.length c1)) = qf at *
  go_wp2
  have hd := HDD.out
  have d0 := hd.cell 0
  have d1 := hd.cell 1
  have d2 := hd.cell 2
  have d3 := hd.cell 3
  have d4 := hd.cell 4
  have d5 := hd.cell 5
  have d6 := hd.cell 6
  have d7 := hd.cell 7
  have d8 := hd.cell 8
  have d9 := hd.cell 9
  have d10 := hd.cell 10
  simp only [List.getElem?_toArray, List.getElem?_cons_zero, List.getElem?_cons_succ] at d0 d1 d2 d3 d4 d5 d6 d7 d8 d9 d10
  refine bodyPost_ret (v := .agg #[.int .i64 ocl, .int .i64 osq, .int .i64 okd, .string oac, .string ope, .int .i64 osm, .slice vB vn vd, .int .i64 opr, .int .i64 ohd, .string ont, .slice A1 T.length c1]) (by simp [results, Tryz.results59, go_sem, d0, d1, d2, d3, d4, d5, d6, d7, d8, d9, d10]) rfl ?_
  exact ⟨A1, c1, rfl, HO.out, hl1, hm1, HFF.out, HN.out⟩
end Go.Proofs.YtnphncemghfkbaaGreat

namespace Go.Proofs.YtnphncemghfkbaaGreat
open Go.RowKit Go.My Go.Maps
set_option linter.unusedSimpArgs false
set_option linter.unusedVariables false
attribute [local go_sem ↓] Go.wp_at_zero Go.wp_at_succ

theorem clashT_any (F : Nat → Prop) (B : Option Addr) (d g : Nat) (M : List (List UInt8)) (x : List UInt8) (w : World) (hr : Rd w F 1 B M.length (ts M)) (hl : M.length ≤ 1000000) (hg : w.cell? ⟨g, 10, none⟩ = some (.slice B M.length d)) :
    Calls Tryz.prog 86 #[.string ⟨x.toArray⟩, .pointer (some ⟨g, 0, none⟩)] w fun e w' => e = .returned (.bool (decide (x ∈ M))) ∧ Fr No w w' := by
  have HX := Lib.hid (containsT_any F B d M x w hr hl)
  clear hr hl
  go_enter Tryz.func86, Tryz.ntmps86
  go_wp2_with fail
  refine HX.out.mono ?_
  rintro e w1 ⟨rfl, rfl⟩
  go_wp2
  go_ret
  exact ⟨rfl, Fr.refl _ _⟩
def hardB (a b : Od) : Bool := decide (a.id = b.id ∨ a.kd = 6 ∨ b.kd = 6 ∨ (a.kd = 1 ∧ b.kd = 1))
set_option maxRecDepth 100000 in
set_option maxHeartbeats 2000000 in
theorem clashes_any (F G : Nat → Prop) (a b : Od) (va vb : Value) (A B : Option Addr) (c d : Nat) (L M : List (List UInt8)) (w : World) (hl : Rd w F 1 A L.length (ts L)) (hm : Rd w G 1 B M.length (ts M)) (h1 : L.length ≤ 1000000) (h2 : M.length ≤ 1000000) :
    Calls Tryz.prog 60 #[mkd a va (.slice A L.length c), mkd b vb (.slice B M.length d)] w fun e w' => e = .returned (.bool (hardB a b || meetL L M)) ∧ Fr No w w' := by
  have HCF : Hid (∀ W g, Fr No w W → W.cell? ⟨g, 10, none⟩ = some (.slice B M.length d) → Calls Tryz.prog 85 #[.slice A L.length c, .func (.func 86) #[] #[.pointer (some ⟨g, 0, none⟩)]] W fun e w' => e = .returned (.bool (meetL L M)) ∧ Fr No W w') := fun W g hW hg =>
    containsS_any F A c L 86 #[.pointer (some ⟨g, 0, none⟩)] (fun s => decide (s ∈ M)) W (hl.fr (by omega) hW fun _ _ _ h => h) h1 (enters_of Tryz.func86 (by kernel_rfl) rfl) (fun W' hW' x hx => clashT_any G B d g M x W' ((hm.fr (by omega) hW fun _ _ _ h => h).fr (by omega) hW' fun _ _ _ h => h) h2 (hW'.cell_some hg (fun h => h)))
  clear hl hm h1 h2
  obtain ⟨acl, asq, akd, aac, ape, asm, alg, apr, ahd, ant⟩ := a
  obtain ⟨bcl, bsq, bkd, bac, bpe, bsm, blg, bpr, bhd, bnt⟩ := b
  unfold mkd Od.cs at *
  simp only [List.cons_append, List.nil_append] at *
  have ha := (Blk.new w 84 #[.int .i64 acl, .int .i64 asq, .int .i64 akd, .string aac, .string ape, .int .i64 asm, va, .int .i64 apr, .int .i64 ahd, .string ant, .slice A L.length c]).alloc (.cells #[.int .i64 bcl, .int .i64 bsq, .int .i64 bkd, .string bac, .string bpe, .int .i64 bsm, vb, .int .i64 bpr, .int .i64 bhd, .string bnt, .slice B M.length d] 84)
  have hb := Blk.new (w.alloc (.cells #[.int .i64 acl, .int .i64 asq, .int .i64 akd, .string aac, .string ape, .int .i64 asm, va, .int .i64 apr, .int .i64 ahd, .string ant, .slice A L.length c] 84)) 84 #[.int .i64 bcl, .int .i64 bsq, .int .i64 bkd, .string bac, .string bpe, .int .i64 bsm, vb, .int .i64 bpr, .int .i64 bhd, .string bnt, .slice B M.length d]
  rw [World.size_alloc] at hb
  have HF1 : Hid (Fr No w ((w.alloc (.cells #[.int .i64 acl, .int .i64 asq, .int .i64 akd, .string aac, .string ape, .int .i64 asm, va, .int .i64 apr, .int .i64 ahd, .string ant, .slice A L.length c] 84)).alloc (.cells #[.int .i64 bcl, .int .i64 bsq, .int .i64 bkd, .string bac, .string bpe, .int .i64 bsm, vb, .int .i64 bpr, .int .i64 bhd, .string bnt, .slice B M.length d] 84))) := ((Fr.refl _ _).alloc _).alloc _
  have a0 := ha.cell 0
  have a1 := ha.cell 1
  have a2 := ha.cell 2
  have a10 := ha.cell 10
  have b0 := hb.cell 0
  have b1 := hb.cell 1
  have b2 := hb.cell 2
  have b10 := hb.cell 10
  simp only [List.getElem?_toArray, List.getElem?_cons_zero, List.getElem?_cons_succ] at a0 a1 a2 a10 b0 b1 b2 b10
  clear ha hb
  have hHB : hardB ⟨acl, asq, akd, aac, ape, asm, alg, apr, ahd, ant⟩ ⟨bcl, bsq, bkd, bac, bpe, bsm, blg, bpr, bhd, bnt⟩ = decide ((acl = bcl ∧ asq = bsq) ∨ akd = 6 ∨ bkd = 6 ∨ (akd = 1 ∧ bkd = 1)) := by
    unfold hardB Od.id
    simp only [Prod.mk.injEq]
  rw [hHB]
  clear hHB
  generalize hD : decide ((acl = bcl ∧ asq = bsq) ∨ akd = 6 ∨ bkd = 6 ∨ (akd = 1 ∧ bkd = 1)) = hd at *
  generalize meetL L M = res at *
  go_enter Tryz.func60, Tryz.ntmps60
  go_upto_region 1 with (fail)
  generalize (w.alloc (.cells #[.int .i64 acl, .int .i64 asq, .int .i64 akd, .string aac, .string ape, .int .i64 asm, va, .int .i64 apr, .int .i64 ahd, .string ant, .slice A L.length c] 84)).alloc (.cells #[.int .i64 bcl, .int .i64 bsq, .int .i64 bkd, .string bac, .string bpe, .int .i64 bsm, vb, .int .i64 bpr, .int .i64 bhd, .string bnt, .slice B M.length d] 84) = w1 at *
  by_cases hid : acl = bcl ∧ asq = bsq
  · obtain rfl : hd = true := by rw [← hD]; exact decide_eq_true (.inl hid)
    obtain ⟨rfl, rfl⟩ := hid
    clear hD
    go_wp2
    go_ret
    exact ⟨rfl, HF1.out⟩
  by_cases h6 : akd = 6
  · obtain rfl : hd = true := by rw [← hD]; exact decide_eq_true (.inr (.inl h6))
    subst h6
    rcases Decidable.not_and_iff_or_not.1 hid with h | h
    · have hz : (acl == bcl) = false := beq_eq_false_iff_ne.2 h
      clear hD
      go_wp2
      go_ret
      exact ⟨rfl, HF1.out⟩
    · have hz : (asq == bsq) = false := beq_eq_false_iff_ne.2 h
      clear hD
      go_wp2
      go_ret
      exact ⟨rfl, HF1.out⟩
  by_cases g6 : bkd = 6
  · obtain rfl : hd = true := by rw [← hD]; exact decide_eq_true (.inr (.inr (.inl g6)))
    subst g6
    have hk : (akd == 6) = false := beq_eq_false_iff_ne.2 h6
    rcases Decidable.not_and_iff_or_not.1 hid with h | h
    · have hz : (acl == bcl) = false := beq_eq_false_iff_ne.2 h
      clear hD
      go_wp2
      go_ret
      exact ⟨rfl, HF1.out⟩
    · have hz : (asq == bsq) = false := beq_eq_false_iff_ne.2 h
      clear hD
      go_wp2
      go_ret
      exact ⟨rfl, HF1.out⟩
  have hk : (akd == 6) = false := beq_eq_false_iff_ne.2 h6
  have gk : (bkd == 6) = false := beq_eq_false_iff_ne.2 g6
  by_cases ho : akd = 1 ∧ bkd = 1
  · obtain rfl : hd = true := by rw [← hD]; exact decide_eq_true (.inr (.inr (.inr ho)))
    obtain ⟨rfl, rfl⟩ := ho
    rcases Decidable.not_and_iff_or_not.1 hid with h | h
    · have hz : (acl == bcl) = false := beq_eq_false_iff_ne.2 h
      clear hD
      go_wp2
      go_ret
      exact ⟨rfl, HF1.out⟩
    · have hz : (asq == bsq) = false := beq_eq_false_iff_ne.2 h
      clear hD
      go_wp2
      go_ret
      exact ⟨rfl, HF1.out⟩
  obtain rfl : hd = false := by
    rw [← hD]
    exact decide_eq_false (by rintro (h | h | h | h); exact hid h; exact h6 h; exact g6 h; exact ho h)
  have HC1 := Lib.hid (HCF.out w1 (w.heap.size + 1) HF1.out b10)
  clear HCF
  by_cases o1 : akd = 1
  · have o2 : (bkd == 1) = false := beq_eq_false_iff_ne.2 fun e => ho ⟨o1, e⟩
    subst o1
    rcases Decidable.not_and_iff_or_not.1 hid with h | h
    · have hz : (acl == bcl) = false := beq_eq_false_iff_ne.2 h
      clear hD
      go_wp2_with fail
      (with_reducible refine HC1.out.mono ?_)
      rintro e w2 ⟨rfl, hf2⟩
      go_wp2
      go_ret
      exact ⟨rfl, HF1.out.trans hf2⟩
    · have hz : (asq == bsq) = false := beq_eq_false_iff_ne.2 h
      clear hD
      go_wp2_with fail
      (with_reducible refine HC1.out.mono ?_)
      rintro e w2 ⟨rfl, hf2⟩
      go_wp2
      go_ret
      exact ⟨rfl, HF1.out.trans hf2⟩
  · have o2 : (akd == 1) = false := beq_eq_false_iff_ne.2 o1
    rcases Decidable.not_and_iff_or_not.1 hid with h | h
    · have hz : (acl == bcl) = false := beq_eq_false_iff_ne.2 h
      clear hD
      go_wp2_with fail
      (with_reducible refine HC1.out.mono ?_)
      rintro e w2 ⟨rfl, hf2⟩
      go_wp2
      go_ret
      exact ⟨rfl, HF1.out.trans hf2⟩
    · have hz : (asq == bsq) = false := beq_eq_false_iff_ne.2 h
      clear hD
      go_wp2_with fail
      (with_reducible refine HC1.out.mono ?_)
      rintro e w2 ⟨rfl, hf2⟩
      go_wp2
      go_ret
      exact ⟨rfl, HF1.out.trans hf2⟩
end Go.Proofs.YtnphncemghfkbaaGreat
