/- Orders as they come in and lie in memory: their readers. A map of Ids (two ints) to ints: where each order of a list stands last. Lists, the key, the map in memory. Which orders clash, in lists. Of no walk. Lists whose elements may change places where they do not clash: which lists are alike, begin one another, and meet. Of no program. Which lists begin one another, as the program reckons it, and as it is said. Of no walk. -/
import Derived.Test.YtcpgamidimfflaaGreatQ12
import Derived.Test.YtcpgamidimfflaaGreatQ02
import Derived.Test.YtcpgamidimfflaaGreatQ06
import Derived.DeepKeys4
import Derived.Maps.RangeWalk
import Derived.StringKeys
import Derived.Test.YtcpgamidimfflaaGreatQ16
import Init
import Derived.Test.YtcpgamidimfflaaGreatQ13
namespace Go.Proofs.YtcpgamidimfflaaGreat
open Go.RowKit Go.My Go.Maps
set_option linter.unusedSimpArgs false
set_option linter.unusedVariables false
theorem LgS_nil (w : World) (F : Nat → Prop) : LgS w F (.slice none 0 0) [] := ⟨none, 0, [], rfl, Rd.none_, ⟨rfl, fun i x hx => by simp at hx⟩, Nat.le_refl _, by unfold maxLen; omega⟩
section
open Go.ChangeShapes Go.WideShapes
variable {H : Type} {enc : TypeId × Value → H} {w : World} {base : Nat} {spare : Nat → Bool} {held : Bool}
set_option maxRecDepth 100000 in
theorem open_id {n : Nat} {cs : List Value} {x : DataW H × List MemPlace} (h : DataW.trod enc Tryz.prog w base spare held n 32 cs = some x) : ∃ a b : Int, cs = [.int .i64 a, .int .i64 b] ∧ In64 a ∧ In64 b := by
  obtain ⟨xs, m, _, _, hl, _, hf⟩ := DataW.trod_struct Tryz.underlying32 h
  have hC : Tryz.prog.cellsOf 32 = 2 := by kernel_rfl
  have C3 : Tryz.prog.cellsOf 3 = 1 := by kernel_rfl
  rw [hC] at hl
  match cs, hl with
  | [v0, v1], _ =>
    have f0 : DataW.trod enc Tryz.prog w base spare held m 3 [v0] = xs[0]? := by have := hf 0 _ rfl; simpa [C3] using this
    have f1 : DataW.trod enc Tryz.prog w base spare held m 3 [v1] = xs[1]? := by have := hf 1 _ rfl; simpa [C3] using this
    have g : ∀ i, i < xs.length → ∃ y, xs[i]? = some y := fun i hi => ⟨xs[i], List.getElem?_eq_getElem hi⟩
    have hxl : xs.length = 2 := by assumption
    obtain ⟨y0, e0⟩ := g 0 (by omega)
    obtain ⟨y1, e1⟩ := g 1 (by omega)
    rw [e0] at f0; rw [e1] at f1
    obtain ⟨k0, hk0, _, wk0⟩ := DataW.trod_int Tryz.underlying3 f0
    obtain ⟨k1, hk1, _, wk1⟩ := DataW.trod_int Tryz.underlying3 f1
    simp only [List.cons.injEq, and_true] at hk0 hk1
    subst hk0 hk1
    exact ⟨k0, k1, rfl, bounds_i64 wk0, bounds_i64 wk1⟩
def OdI (w : World) (o : Od) (v : Value) : Prop := o.ok ∧ (∀ g ∈ o.legs, g.ok) ∧ LgS w (Lt w.heap.size) v o.legs
set_option maxRecDepth 100000 in
theorem open_od {n : Nat} {cs : List Value} {x : DataW H × List MemPlace} (h : DataW.trod enc Tryz.prog w base spare held n 35 cs = some x) : ∃ (o : Od) (v : Value), cs = o.cs v ∧ OdI w o v := by
  obtain ⟨xs, m, _, _, hl, _, hf⟩ := DataW.trod_struct Tryz.underlying35 h
  have hC : Tryz.prog.cellsOf 35 = 10 := by kernel_rfl
  have C0 : Tryz.prog.cellsOf 32 = 2 := by kernel_rfl
  have C1 : Tryz.prog.cellsOf 9 = 1 := by kernel_rfl
  have C2 : Tryz.prog.cellsOf 2 = 1 := by kernel_rfl
  have C3 : Tryz.prog.cellsOf 3 = 1 := by kernel_rfl
  have C4 : Tryz.prog.cellsOf 33 = 1 := by kernel_rfl
  rw [hC] at hl
  match cs, hl with
  | [v0, v1, v2, v3, v4, v5, v6, v7, v8, v9], _ =>
    have f0 : DataW.trod enc Tryz.prog w base spare held m 32 [v0, v1] = xs[0]? := by have := hf 0 _ rfl; simpa [C0, C1, C2, C3, C4] using this
    have f1 : DataW.trod enc Tryz.prog w base spare held m 3 [v2] = xs[1]? := by have := hf 1 _ rfl; simpa [C0, C1, C2, C3, C4] using this
    have f2 : DataW.trod enc Tryz.prog w base spare held m 9 [v3] = xs[2]? := by have := hf 2 _ rfl; simpa [C0, C1, C2, C3, C4] using this
    have f3 : DataW.trod enc Tryz.prog w base spare held m 9 [v4] = xs[3]? := by have := hf 3 _ rfl; simpa [C0, C1, C2, C3, C4] using this
    have f4 : DataW.trod enc Tryz.prog w base spare held m 2 [v5] = xs[4]? := by have := hf 4 _ rfl; simpa [C0, C1, C2, C3, C4] using this
    have f5 : DataW.trod enc Tryz.prog w base spare held m 33 [v6] = xs[5]? := by have := hf 5 _ rfl; simpa [C0, C1, C2, C3, C4] using this
    have f6 : DataW.trod enc Tryz.prog w base spare held m 3 [v7] = xs[6]? := by have := hf 6 _ rfl; simpa [C0, C1, C2, C3, C4] using this
    have f7 : DataW.trod enc Tryz.prog w base spare held m 3 [v8] = xs[7]? := by have := hf 7 _ rfl; simpa [C0, C1, C2, C3, C4] using this
    have f8 : DataW.trod enc Tryz.prog w base spare held m 9 [v9] = xs[8]? := by have := hf 8 _ rfl; simpa [C0, C1, C2, C3, C4] using this
    have g : ∀ i, i < xs.length → ∃ y, xs[i]? = some y := fun i hi => ⟨xs[i], List.getElem?_eq_getElem hi⟩
    have hxl : xs.length = 9 := by assumption
    obtain ⟨y0, e0⟩ := g 0 (by omega)
    obtain ⟨y1, e1⟩ := g 1 (by omega)
    obtain ⟨y2, e2⟩ := g 2 (by omega)
    obtain ⟨y3, e3⟩ := g 3 (by omega)
    obtain ⟨y4, e4⟩ := g 4 (by omega)
    obtain ⟨y5, e5⟩ := g 5 (by omega)
    obtain ⟨y6, e6⟩ := g 6 (by omega)
    obtain ⟨y7, e7⟩ := g 7 (by omega)
    obtain ⟨y8, e8⟩ := g 8 (by omega)
    rw [e0] at f0; rw [e1] at f1; rw [e2] at f2; rw [e3] at f3; rw [e4] at f4; rw [e5] at f5; rw [e6] at f6; rw [e7] at f7; rw [e8] at f8
    obtain ⟨a, b, h01, ha, hb⟩ := open_id f0
    obtain ⟨k2, h2, _, w2⟩ := DataW.trod_int Tryz.underlying3 f1
    obtain ⟨s3, h3, _, w3⟩ := DataW.trod_string Tryz.underlying9 f2
    obtain ⟨s4, h4, _, w4⟩ := DataW.trod_string Tryz.underlying9 f3
    obtain ⟨k5, h5, _, w5⟩ := DataW.trod_int Tryz.underlying2 f4
    obtain ⟨A, c, cells, L, h6, hrd, hlc, hcm, hE⟩ := open_each RdLg Tryz.underlying33 (size := 2) (by kernel_rfl) (by omega) (fun n cs x hx => open_leg hx) f5
    obtain ⟨k7, h7, _, w7⟩ := DataW.trod_int Tryz.underlying3 f6
    obtain ⟨k8, h8, _, w8⟩ := DataW.trod_int Tryz.underlying3 f7
    obtain ⟨s9, h9, _, w9⟩ := DataW.trod_string Tryz.underlying9 f8
    simp only [List.cons.injEq, and_true] at h01 h2 h3 h4 h5 h6 h7 h8 h9
    obtain ⟨h0, h1⟩ := h01
    subst h0 h1 h2 h3 h4 h5 h6 h7 h8 h9
    refine ⟨⟨a, b, k2, s3, s4, k5, L, k7, k8, s9⟩, .slice A L.length c, rfl, ⟨ha, hb, bounds_i64 w2, w3, w4, bounds_i64 w5, bounds_i64 w7, bounds_i64 w8, w9⟩, ?_, A, c, cells, rfl, hrd, hE, hlc, hcm⟩
    intro g hg
    obtain ⟨i, hi, rfl⟩ := List.getElem_of_mem hg
    exact (hE.2 i _ (List.getElem?_eq_getElem hi)).2
end
def Od.few (o : Od) : Od := { o with legs := o.legs.take 10 }
theorem LgS.take {w : World} {F : Nat → Prop} {A : Option Addr} {L : List Lg} {n c : Nat} (h : LgS w F (.slice A n c) L) (k : Nat) : LgS w F (.slice A (min n k) c) (L.take k) := by
  obtain ⟨A', c', cells, e, hr, hE, h1, h2⟩ := h
  cases e
  refine ⟨A, c, cells.take (min L.length k * 2), by rw [List.length_take, Nat.min_comm], ?_, ?_, by rw [List.length_take]; omega, h2⟩
  · have := hr.take (k := min L.length k) (by omega)
    rw [List.length_take, Nat.min_comm k]
    exact this
  · refine ⟨by rw [List.length_take, List.length_take, hE.1]; omega, fun i x hx => ?_⟩
    have hi : i < (L.take k).length := (List.getElem?_eq_some_iff.1 hx).1
    rw [List.length_take] at hi
    have hx' : L[i]? = some x := by rw [List.getElem?_take] at hx; split at hx <;> simp_all
    have := hE.2 i x hx'
    rw [List.drop_take, List.take_take, Nat.min_eq_left (by omega)]
    exact this
theorem LgS.form {w : World} {F : Nat → Prop} {v : Value} {L : List Lg} (h : LgS w F v L) : ∃ A c, v = .slice A L.length c ∧ L.length ≤ c ∧ c ≤ maxLen := by
  obtain ⟨A, c, cells, e, hr, hE, h1, h2⟩ := h
  exact ⟨A, c, e, h1, h2⟩
theorem LgS.below {w w' : World} {v : Value} {L : List Lg} {B : Nat} (h : LgS w (Lt B) v L) (hb : Below B w w') : LgS w' (Lt B) v L := by
  obtain ⟨A, c, cells, e, hr, hE, h1, h2⟩ := h
  exact ⟨A, c, cells, e, hr.below hb (fun _ h => h), hE, h1, h2⟩
end Go.Proofs.YtcpgamidimfflaaGreat
namespace Go.My
open Go Go.RowKit Go.Maps Go.WideMaps
set_option linter.unusedSimpArgs false
set_option linter.unusedVariables false
abbrev Idk := Int × Int
def posF (L : List Idk) (k : Idk) : Option Nat := ((List.range L.length).reverse).find? fun i => decide (L[i]? = some k)
theorem posF_snoc (L : List Idk) (x k : Idk) : posF (L ++ [x]) k = if x = k then some L.length else posF L k := by
  unfold posF
  rw [List.length_append, List.length_singleton, List.range_succ, List.reverse_append, List.reverse_singleton, List.singleton_append, List.find?_cons]
  by_cases e : x = k
  · rw [if_pos e]
    simp [e]
  · rw [if_neg e]
    have h0 : decide ((L ++ [x])[L.length]? = some k) = false := by simp [e]
    rw [h0]
    simp only
    have : ∀ l : List Nat, (∀ i ∈ l, i < L.length) → l.find? (fun i => decide ((L ++ [x])[i]? = some k)) = l.find? (fun i => decide (L[i]? = some k)) := by
      intro l hl
      induction l with
      | nil => rfl
      | cons a r ih =>
        rw [List.find?_cons, List.find?_cons, List.getElem?_append_left (hl a List.mem_cons_self), ih fun i hi => hl i (List.mem_cons_of_mem _ hi)]
    exact this _ fun i hi => by simpa using hi
theorem posF_some {L : List Idk} {k : Idk} {i : Nat} (h : posF L k = some i) : i < L.length ∧ L[i]? = some k := by
  unfold posF at h
  have h1 := List.mem_of_find?_eq_some h
  have h2 := List.find?_some h
  exact ⟨by simpa using h1, by simpa using h2⟩
theorem posF_isSome (L : List Idk) (k : Idk) : (posF L k).isSome = decide (k ∈ L) := by
  unfold posF
  by_cases h : k ∈ L
  · rw [decide_eq_true h, List.find?_isSome]
    obtain ⟨i, hi, he⟩ := List.mem_iff_getElem.1 h
    exact ⟨i, by simpa using hi, by simp [hi, he]⟩
  · rw [decide_eq_false h]
    cases hg : ((List.range L.length).reverse).find? fun i => decide (L[i]? = some k) with
    | none => rfl
    | some i =>
      have h2 := List.find?_some hg
      have h2 : L[i]? = some k := by simpa using h2
      exact absurd (List.mem_of_getElem? h2) h
def keysF : List Idk → List Idk
  | [] => []
  | x :: r => if x ∈ r then keysF r else x :: keysF r
theorem len_keysF_snoc (L : List Idk) (x : Idk) : (keysF (L ++ [x])).length = if x ∈ L then (keysF L).length else (keysF L).length + 1 := by
  induction L with
  | nil => rfl
  | cons y r ih =>
    rw [List.cons_append]
    unfold keysF
    by_cases hy : y ∈ r
    · rw [if_pos hy, if_pos (List.mem_append_left _ hy), ih]
      by_cases hx : x ∈ r
      · rw [if_pos hx, if_pos (List.mem_cons_of_mem _ hx)]
      · rw [if_neg hx, if_neg (fun e => by rcases List.mem_cons.1 e with rfl | e; exact hx hy; exact hx e)]
    · rw [if_neg hy]
      by_cases hxy : y = x
      · subst hxy
        rw [if_pos (List.mem_append_right _ List.mem_cons_self), if_pos List.mem_cons_self, ih, if_neg hy, List.length_cons]
      · rw [if_neg (fun e => by rcases List.mem_append.1 e with e | e; exact hy e; exact hxy (by simpa using e)), List.length_cons, ih]
        by_cases hx : x ∈ r
        · rw [if_pos hx, if_pos (List.mem_cons_of_mem _ hx), List.length_cons]
        · rw [if_neg hx, if_neg (fun e => by rcases List.mem_cons.1 e with e | e; exact hxy e.symm; exact hx e), List.length_cons]
theorem wfI_ {n : Int} : (Lit.int .i64 n).wf = true ↔ In64 n := by
  unfold In64 Lit.wf IntKind.min IntKind.max
  simp [IntKind.signed, IntKind.bits]
theorem litsI {P : Program} {t : TypeId} (ht : P.underlying t = some (.int .i64)) (m : Nat) (v : Value) (L : List Lit) : P.keyLits (m + 1) t [v] = some L ↔ ∃ n : Int, v = .int .i64 n ∧ In64 n ∧ L = [.int .i64 n] := by
  unfold Program.keyLits
  rw [ht]
  constructor
  · intro h
    cases v <;> simp at h
    obtain ⟨⟨rfl, h⟩, rfl⟩ := h
    exact ⟨_, rfl, wfI_.1 h, rfl⟩
  · rintro ⟨s, rfl, hs, rfl⟩
    simp [wfI_.2 hs]
structure IdKey (P : Program) (k : TypeId) (f0 f1 : Field) : Prop where
  under : P.underlying k = some (.struct #[f0, f1])
  o0 : f0.offset = 0
  o1 : f1.offset = 1
  n0 : ¬ f0.name = "_"
  n1 : ¬ f1.name = "_"
  cells : P.cellsOf k = 2
  c0 : P.cellsOf f0.type = 1
  c1 : P.cellsOf f1.type = 1
  int0 : P.underlying f0.type = some (.int .i64)
  int1 : P.underlying f1.type = some (.int .i64)
  key : P.keyType k = true
  size : 0 < P.types.size
def ki (k : Idk) : Lit := .string (keyBytes [.int .i64 k.1, .int .i64 k.2])
theorem isKey_ki (k : Idk) : WideAt.IsKeyLit (ki k) := isKey_str _
def IdOk (k : Idk) : Prop := In64 k.1 ∧ In64 k.2
def KiInj : Prop := ∀ a b, IdOk a → IdOk b → ki a = ki b → a = b
section
variable {P : Program} {k : TypeId} {f0 f1 : Field}
theorem keyLits_two (h : IdKey P k f0 f1) (m : Nat) (cs : List Value) :
    P.keyLits (m + 1) k cs = if cs.length = 2 then (P.keyLits m f0.type (cs.take 1)).bind fun l1 => (P.keyLits m f1.type ((cs.drop 1).take 1)).map fun l2 => [l1, l2].flatten else none := by
  conv => lhs; unfold Program.keyLits
  simp only [h.under, h.cells]
  by_cases hc : cs.length = 2
  · rw [if_pos ⟨hc, by simpa using ⟨h.n0, h.n1⟩⟩, if_pos hc]
    simp only [List.mapM_cons, List.mapM_nil, h.o0, h.o1, h.c0, h.c1, List.drop_zero]
    cases P.keyLits m f0.type (cs.take 1) with
    | none => rfl
    | some l1 =>
      cases P.keyLits m f1.type ((cs.drop 1).take 1) with
      | none => rfl
      | some l2 => rfl
  · rw [if_neg (fun e => hc e.1), if_neg hc]
theorem keyLits_id (hp : IdKey P k f0 f1) (m : Nat) (cs : List Value) (L : List Lit) : P.keyLits (m + 1 + 1) k cs = some L ↔ ∃ s n : Int, cs = [.int .i64 s, .int .i64 n] ∧ In64 s ∧ In64 n ∧ L = [.int .i64 s, .int .i64 n] := by
  rw [keyLits_two hp]
  constructor
  · intro h
    split at h
    · rename_i hl
      match cs, hl with
      | [x, y], _ =>
        simp only [List.take_succ_cons, List.take_zero, List.drop_succ_cons, List.drop_zero, Option.bind_eq_some_iff, Option.map_eq_some_iff] at h
        obtain ⟨l1, h1, l2, h2, rfl⟩ := h
        obtain ⟨s, rfl, hs, rfl⟩ := (litsI hp.int0 m x l1).1 h1
        obtain ⟨n, rfl, hn, rfl⟩ := (litsI hp.int1 m y l2).1 h2
        exact ⟨s, n, rfl, hs, hn, rfl⟩
    · cases h
  · rintro ⟨s, n, rfl, hs, hn, rfl⟩
    rw [if_pos (show [Value.int .i64 s, Value.int .i64 n].length = 2 from rfl)]
    simp only [List.take_succ_cons, List.take_zero, List.drop_succ_cons, List.drop_zero, (litsI hp.int0 m _ _).2 ⟨s, rfl, hs, rfl⟩, (litsI hp.int1 m _ _).2 ⟨n, rfl, hn, rfl⟩]
    rfl
theorem IdKey.some_size (hp : IdKey P k f0 f1) : ∃ m, P.types.size = m + 1 := ⟨P.types.size - 1, by have := hp.size; omega⟩
theorem IdKey.wide (hp : IdKey P k f0 f1) : (match P.underlying k with | some (.array _ _) | some (.struct _) => true | _ => false) = true := by rw [hp.under]
theorem IdKey.of (hp : IdKey P k f0 f1) {a : Idk} (ha : IdOk a) : keyOf P k (.agg #[.int .i64 a.1, .int .i64 a.2]) = some (ki a) := by
  obtain ⟨m, hm⟩ := hp.some_size
  have h := (keyLits_id hp m [.int .i64 a.1, .int .i64 a.2] _).2 ⟨a.1, a.2, rfl, ha.1, ha.2, rfl⟩
  have hf : (Value.agg #[.int .i64 a.1, .int .i64 a.2]).formed P k = true := by
    unfold Value.formed
    rw [hp.under, hp.cells]
    rfl
  unfold keyOf
  rw [hp.under]
  simp only []
  rw [hp.key, hf, if_pos (show (true && true) = true from rfl), hm]
  show (P.keyLits (m + 1 + 1) k [.int .i64 a.1, .int .i64 a.2]).map _ = _
  rw [h]
  rfl
theorem IdKey.inv (hp : IdKey P k f0 f1) {v : Value} {l : Lit} (h : keyOf P k v = some l) : ∃ a : Idk, v = .agg #[.int .i64 a.1, .int .i64 a.2] ∧ IdOk a ∧ l = ki a := by
  obtain ⟨xs, L, rfl, h1, rfl⟩ := keyOf_top hp.wide h
  obtain ⟨m, hm⟩ := hp.some_size
  rw [hm] at h1
  obtain ⟨s, n, h2, hs, hn, rfl⟩ := (keyLits_id hp m _ _).1 h1
  refine ⟨(s, n), ?_, ⟨hs, hn⟩, rfl⟩
  rw [← h2]
theorem IdKey.apart (hp : IdKey P k f0 f1) (hk : Keyed P k) : KiInj := by
  intro a b ha hb he
  have h1 := hp.of ha
  have h2 := hp.of hb
  rw [he] at h1
  have h2 := hk.inj h1 h2
  simp only [Value.agg.injEq, Array.mk.injEq, List.cons.injEq, Value.int.injEq, and_true, true_and] at h2
  exact Prod.ext h2.1 h2.2
end
structure RepI (D : DataW Unit) (L : List Idk) : Prop where
  tidy : Tidy D
  size : Maps.size D = (keysF L).length
  has : ∀ a, IdOk a → Maps.has D (ki a) = (posF L a).isSome
  look : ∀ a, IdOk a → ∀ z, D.atKey (ki a) z = match posF L a with | some i => .lit (.int .i64 i) | none => z
theorem RepI.nil : RepI (.map []) [] := ⟨tidy_empty, rfl, fun _ _ => rfl, fun _ _ _ => rfl⟩
theorem RepI.put (hi : KiInj) {D : DataW Unit} {L : List Idk} (h : RepI D L) (x : Idk) (hx : IdOk x) : RepI (D.put (ki x) (.lit (.int .i64 L.length))) (L ++ [x]) := by
  refine ⟨h.tidy.put (isKey_ki _) _, ?_, fun a ha => ?_, fun a ha z => ?_⟩
  · rw [size_put h.tidy, h.has _ hx, posF_isSome, h.size, len_keysF_snoc]
    by_cases e : x ∈ L
    · simp [e]
    · simp [e]
  · rw [posF_snoc]
    by_cases e : x = a
    · subst e
      rw [has_put_same h.tidy.isMap (isKey_ki _), if_pos rfl]
      rfl
    · rw [has_put_other (fun e2 => e (hi _ _ ha hx e2).symm), h.has a ha, if_neg e]
  · rw [posF_snoc]
    by_cases e : x = a
    · subst e
      rw [atKey_put_same h.tidy.isMap (isKey_ki _), if_pos rfl]
    · rw [atKey_put_other (fun e2 => e (hi _ _ ha hx e2).symm), h.look a ha, if_neg e]
end Go.My
namespace Go.Proofs.YtcpgamidimfflaaGreat
open Go.RowKit Go.My Go.Maps Go.WideMaps
set_option linter.unusedSimpArgs false
set_option linter.unusedVariables false
theorem fr_grownI {w w' : World} {r : Nat} (h : w.grownBy w' (some r)) : Fr (At1 r) w w' := ⟨h.os, h.tape, h.output, h.size, fun k hk hn => h.block k hk (fun e => hn (by injection e))⟩
theorem laidI : laidOutB Tryz.prog = true := by kernel_rfl
theorem rowI : (32 : TypeId) < Tryz.prog.types.size := of_decide_eq_true (by kernel_rfl)
theorem lawI : KeyLaw Tryz.prog 32 := deep_law_laid laidI (m := 3) (by omega) rowI (by kernel_rfl) (by rw [Tryz.underlying32])
theorem keyedI : Keyed Tryz.prog 32 := Keyed.of_law lawI
theorem idKey : ∃ f0 f1, IdKey Tryz.prog 32 f0 f1 := ⟨_, _, {
  under := Tryz.underlying32
  o0 := rfl
  o1 := rfl
  n0 := by decide
  n1 := by decide
  cells := by kernel_rfl
  c0 := by kernel_rfl
  c1 := by kernel_rfl
  int0 := Tryz.underlying3
  int1 := Tryz.underlying3
  key := by kernel_rfl
  size := of_decide_eq_true (by kernel_rfl) }⟩
theorem key_id {a : Idk} (ha : IdOk a) : keyOf Tryz.prog 32 (.agg #[.int .i64 a.1, .int .i64 a.2]) = some (ki a) := by
  obtain ⟨f0, f1, hp⟩ := idKey
  exact hp.of ha
theorem kiInj : KiInj := by
  obtain ⟨f0, f1, hp⟩ := idKey
  exact hp.apart keyedI
noncomputable abbrev idR : Value → Option (DataW Unit × List MemPlace) := plainElem Tryz.prog 3
theorem idR_mk {n : Int} (h : In64 n) : idR (.int .i64 n) = some (.lit (.int .i64 n), []) := plainElem_int Tryz.underlying3 (wfI_.2 h)
structure IMp (w : World) (m : Nat) (L : List Idk) : Prop where
  own : ∃ D, w.ownsMap Tryz.prog 32 idR m L.length D ∧ RepI D L
section
variable {w w' : World} {m : Nat} {L : List Idk}
theorem IMp.lt (h : IMp w m L) : m < w.heap.size := by
  obtain ⟨D, hD, _⟩ := h.own
  exact hD.lt
theorem IMp.fr {F : Nat → Prop} (h : IMp w m L) (hf : Fr F w w') (hn : ¬ F m) : IMp w' m L := by
  obtain ⟨D, ⟨es, clock, hb, r⟩, hR⟩ := h
  exact ⟨D, ⟨es, clock, (hf.block m (Array.getElem?_eq_some_iff.1 hb).1 hn).trans hb, r⟩, hR⟩
theorem IMp.ne_ {g : Nat} {t : TypeId} {cs : Array Value} (h : IMp w m L) (hg : Blk w g t cs) : m ≠ g := by
  rintro rfl
  obtain ⟨D, ⟨es, clock, hb, _⟩, _⟩ := h
  unfold Blk at hg
  rw [hb] at hg
  cases hg
def posO : Option Nat → Int
  | some i => i
  | none => 0
theorem zeroId (w : World) : (zeroValue 3).run Tryz.prog w = .ok (.int .i64 0) w := by kernel_rfl
theorem IMp.val (h : IMp w m L) (a : Idk) (ha : IdOk a) : ∃ c : Int, (match posF L a with | some i => (DataW.lit (.int .i64 (i : Int)) : DataW Unit) | none => .lit (.int .i64 0)) = .lit (.int .i64 (posO (posF L a))) := by
  cases posF L a with
  | none => exact ⟨0, rfl⟩
  | some i => exact ⟨0, rfl⟩
theorem IMp.look (h : IMp w m L) (a : Idk) (ha : IdOk a) :
    (Instr.lookup 136 (.map (some m)) (.agg #[.int .i64 a.1, .int .i64 a.2]) true).run Tryz.prog w = .ok (.tuple #[.int .i64 (posO (posF L a)), .bool (posF L a).isSome]) w := by
  obtain ⟨D, hD, hR⟩ := h.own
  obtain ⟨v, ps, hrun, hv⟩ := hD.look_ok keyedI Tryz.underlying136 (zeroId w) (idR_mk (show In64 0 by unfold In64; omega)) (key_id ha)
  rw [hR.has _ ha] at hrun
  rw [hR.look _ ha] at hv
  obtain ⟨c, rfl, hc, hwc⟩ := plainElem_int_inv Tryz.underlying3 hv
  rw [hrun]
  have : c = posO (posF L a) := by
    cases hg : posF L a with
    | none =>
      rw [hg] at hc
      simp only [Prod.mk.injEq, DataW.lit.injEq, Lit.int.injEq, true_and] at hc
      exact hc.1.symm
    | some i =>
      rw [hg] at hc
      simp only [Prod.mk.injEq, DataW.lit.injEq, Lit.int.injEq, true_and] at hc
      exact hc.1.symm
  rw [this]
theorem IMp.put (h : IMp w m L) (a : Idk) (ha : IdOk a) (hl : L.length < maxLen) (hi : In64 (L.length : Int)) :
    ∃ w', (Instr.mapUpdate 136 (.map (some m)) (.agg #[.int .i64 a.1, .int .i64 a.2]) (.int .i64 L.length)).run Tryz.prog w = .ok () w' ∧ IMp w' m (L ++ [a]) ∧ Fr (At1 m) w w' := by
  obtain ⟨D, hD, hR⟩ := h.own
  obtain ⟨w', hrun, hown, hgr⟩ := hD.update keyedI Tryz.underlying136 hl (key_id ha) (idR_mk hi)
  refine ⟨w', hrun, ⟨⟨_, ?_, hR.put kiInj a ha⟩⟩, fr_grownI hgr⟩
  rw [List.length_append]
  exact hown
end
end Go.Proofs.YtcpgamidimfflaaGreat
namespace Go.Proofs.YtcpgamidimfflaaGreat
open Go.RowKit Go.My Go.Maps
set_option linter.unusedSimpArgs false
set_option linter.unusedVariables false
def Od.id (o : Od) : Idk := (o.cl, o.sq)
def idsO (l : List Od) : List Idk := l.map Od.id
end Go.Proofs.YtcpgamidimfflaaGreat
namespace Go.My
set_option linter.unusedSimpArgs false
set_option linter.unusedVariables false
set_option linter.unusedSectionVars false
section
variable {α : Type} {κ : Type} [DecidableEq κ]
def bef (x y : α) : List α → Prop
  | [] => False
  | z :: l => (z = x ∧ y ∈ l) ∨ bef x y l
theorem bef_nil (x y : α) : ¬ bef x y [] := fun h => h
theorem bef_cons (x y z : α) (l : List α) : bef x y (z :: l) ↔ (z = x ∧ y ∈ l) ∨ bef x y l := Iff.rfl
theorem bef_append (x y : α) (l r : List α) : bef x y (l ++ r) ↔ bef x y l ∨ (x ∈ l ∧ y ∈ r) ∨ bef x y r := by
  induction l with
  | nil => simp [bef]
  | cons z l ih =>
    rw [List.cons_append, bef_cons, bef_cons, ih, List.mem_append, List.mem_cons]
    constructor
    · rintro (⟨h, h1 | h1⟩ | h | h | h)
      · exact .inl (.inl ⟨h, h1⟩)
      · exact .inr (.inl ⟨.inl h.symm, h1⟩)
      · exact .inl (.inr h)
      · exact .inr (.inl ⟨.inr h.1, h.2⟩)
      · exact .inr (.inr h)
    · rintro ((h | h) | ⟨h | h, h1⟩ | h)
      · exact .inl ⟨h.1, .inl h.2⟩
      · exact .inr (.inl h)
      · exact .inl ⟨h.symm, .inr h1⟩
      · exact .inr (.inr (.inl ⟨h, h1⟩))
      · exact .inr (.inr (.inr h))
theorem bef_mem {x y : α} {l : List α} (h : bef x y l) : x ∈ l ∧ y ∈ l := by
  induction l with
  | nil => exact absurd h (bef_nil _ _)
  | cons z l ih =>
    rcases h with ⟨rfl, h⟩ | h
    · exact ⟨List.mem_cons_self, List.mem_cons_of_mem _ h⟩
    · exact ⟨List.mem_cons_of_mem _ (ih h).1, List.mem_cons_of_mem _ (ih h).2⟩
theorem bef_filter (x y : α) (p : α → Bool) (l : List α) : bef x y (l.filter p) ↔ bef x y l ∧ p x = true ∧ p y = true := by
  induction l with
  | nil => simp [bef]
  | cons z l ih =>
    rw [List.filter_cons]
    split
    · rename_i hz
      rw [bef_cons, bef_cons, ih, List.mem_filter]
      constructor
      · rintro (⟨rfl, h, hy⟩ | ⟨h, hx, hy⟩)
        · exact ⟨.inl ⟨rfl, h⟩, hz, hy⟩
        · exact ⟨.inr h, hx, hy⟩
      · rintro ⟨⟨rfl, h⟩ | h, hx, hy⟩
        · exact .inl ⟨rfl, h, hy⟩
        · exact .inr ⟨h, hx, hy⟩
    · rename_i hz
      rw [ih, bef_cons]
      constructor
      · rintro ⟨h, hx, hy⟩
        exact ⟨.inr h, hx, hy⟩
      · rintro ⟨⟨rfl, h⟩ | h, hx, hy⟩
        · exact absurd hx hz
        · exact ⟨h, hx, hy⟩
theorem bef_total {x y : α} {l : List α} (hx : x ∈ l) (hy : y ∈ l) (hne : x ≠ y) : bef x y l ∨ bef y x l := by
  induction l with
  | nil => cases hx
  | cons z l ih =>
    rw [bef_cons, bef_cons]
    rcases List.mem_cons.1 hx with e1 | h1
    · rcases List.mem_cons.1 hy with e2 | h2
      · exact absurd (e1.trans e2.symm) hne
      · exact .inl (.inl ⟨e1.symm, h2⟩)
    · rcases List.mem_cons.1 hy with e2 | h2
      · exact .inr (.inl ⟨e2.symm, h1⟩)
      · exact (ih h1 h2).imp .inr .inr
theorem bef_anti {x y : α} {l : List α} (hn : l.Nodup) (h : bef x y l) : ¬ bef y x l := by
  induction l with
  | nil => exact absurd h (bef_nil _ _)
  | cons z l ih =>
    rw [List.nodup_cons] at hn
    rcases h with ⟨rfl, h⟩ | h
    · rintro (⟨rfl, k⟩ | k)
      · exact hn.1 k
      · exact hn.1 (bef_mem k).2
    · rintro (⟨rfl, k⟩ | k)
      · exact hn.1 (bef_mem h).2
      · exact ih hn.2 h k
theorem bef_ne {x y : α} {l : List α} (hn : l.Nodup) (h : bef x y l) : x ≠ y := by
  rintro rfl
  exact bef_anti hn h h
theorem nodup_len [DecidableEq α] {a : List α} : ∀ {b : List α}, a.Nodup → (∀ x ∈ a, x ∈ b) → a.length ≤ b.length ∧ (a.length = b.length → ∀ x ∈ b, x ∈ a) := by
  induction a with
  | nil => intro b _ _; exact ⟨Nat.zero_le _, fun e x hx => by have : b = [] := List.eq_nil_of_length_eq_zero e.symm; rw [this] at hx; exact hx⟩
  | cons z a ih =>
    intro b hn hs
    rw [List.nodup_cons] at hn
    have hz : z ∈ b := hs z List.mem_cons_self
    have h1 := ih (b := b.erase z) hn.2 fun x hx => by
      have hne : x ≠ z := by rintro rfl; exact hn.1 hx
      exact (List.mem_erase_of_ne hne).2 (hs x (List.mem_cons_of_mem _ hx))
    have hl := List.length_erase_of_mem hz
    have hp : 0 < b.length := List.length_pos_of_mem hz
    rw [List.length_cons]
    refine ⟨by omega, fun e x hx => ?_⟩
    by_cases hxz : x = z
    · exact hxz ▸ List.mem_cons_self
    · exact List.mem_cons_of_mem _ (h1.2 (by omega) x ((List.mem_erase_of_ne hxz).2 hx))
variable (idf : α → κ) (cl : α → α → Bool)
def Rt (l : List α) : Prop := (l.map idf).Nodup
def Bg (a b : List α) : Prop := Rt idf a ∧ Rt idf b ∧ (∀ o ∈ a, o ∈ b) ∧ ∀ x o, bef x o b → cl x o = true → o ∈ a → bef x o a
def Ak (a b : List α) : Prop := a.length = b.length ∧ Bg idf cl a b
def others (a b : List α) : List α := b.filter fun o => decide (idf o ∉ a.map idf)
variable {idf cl}
theorem Rt.nodup {l : List α} (h : Rt idf l) : l.Nodup := by
  unfold Rt at h
  exact List.Pairwise.of_map (S := (· ≠ ·)) idf (fun a b hab e => hab (by rw [e])) h
theorem Rt.inj {l : List α} (h : Rt idf l) {x y : α} (hx : x ∈ l) (hy : y ∈ l) (e : idf x = idf y) : x = y := by
  induction l with
  | nil => cases hx
  | cons z l ih =>
    unfold Rt at h
    rw [List.map_cons, List.nodup_cons] at h
    rcases List.mem_cons.1 hx with e1 | h1
    · rcases List.mem_cons.1 hy with e2 | h2
      · exact e1.trans e2.symm
      · exact absurd (by rw [← e1, e]; exact List.mem_map_of_mem h2) h.1
    · rcases List.mem_cons.1 hy with e2 | h2
      · exact absurd (by rw [← e2, ← e]; exact List.mem_map_of_mem h1) h.1
      · exact ih h.2 h1 h2
theorem Rt.nil : Rt idf [] := List.nodup_nil
theorem Rt.filter {l : List α} (h : Rt idf l) (p : α → Bool) : Rt idf (l.filter p) := by
  unfold Rt at *
  exact (List.Sublist.map idf List.filter_sublist).nodup h
theorem Rt.take {l : List α} (h : Rt idf l) (k : Nat) : Rt idf (l.take k) := by
  unfold Rt at *
  exact (List.Sublist.map idf (List.take_sublist k l)).nodup h
theorem Rt.perm {l m : List α} (h : Rt idf l) (p : l.Perm m) : Rt idf m := (p.map idf).nodup_iff.1 h
theorem mem_others {a b : List α} {o : α} : o ∈ others idf a b ↔ o ∈ b ∧ idf o ∉ a.map idf := by
  unfold others
  rw [List.mem_filter]
  simp
theorem Rt.meet {a b : List α} (ha : Rt idf a) (hb : Rt idf b) : Rt idf (a ++ others idf a b) := by
  have h1 := hb.filter fun o => decide (idf o ∉ a.map idf)
  unfold Rt at *
  rw [List.map_append, List.nodup_append]
  refine ⟨ha, h1, fun x hx y hy e => ?_⟩
  subst e
  obtain ⟨o, ho, rfl⟩ := List.mem_map.1 hy
  exact (mem_others.1 ho).2 hx
theorem Bg.refl {a : List α} (h : Rt idf a) : Bg idf cl a a := ⟨h, h, fun _ h => h, fun _ _ h _ _ => h⟩
theorem Bg.nil {b : List α} (h : Rt idf b) : Bg idf cl [] b := ⟨Rt.nil, h, fun _ k => absurd k List.not_mem_nil, fun _ _ _ _ k => absurd k List.not_mem_nil⟩
theorem Bg.trans {a b c : List α} (h : Bg idf cl a b) (k : Bg idf cl b c) : Bg idf cl a c :=
  ⟨h.1, k.2.1, fun o ho => k.2.2.1 o (h.2.2.1 o ho), fun x o hb hc ho => h.2.2.2 x o (k.2.2.2 x o hb hc (h.2.2.1 o ho)) hc ho⟩
theorem Bg.take {a : List α} (h : Rt idf a) (k : Nat) : Bg idf cl (a.take k) a := by
  refine ⟨h.take k, h, fun o ho => List.mem_of_mem_take ho, fun x o hb _ ho => ?_⟩
  have e := List.take_append_drop k a
  have hn : (a.take k ++ a.drop k).Nodup := by rw [e]; exact h.nodup
  rw [List.nodup_append] at hn
  rw [← e, bef_append] at hb
  rcases hb with hb | ⟨_, hb⟩ | hb
  · exact hb
  · exact absurd rfl (hn.2.2 _ ho _ hb)
  · exact absurd rfl (hn.2.2 _ ho _ (bef_mem hb).2)
theorem Ak.refl {a : List α} (h : Rt idf a) : Ak idf cl a a := ⟨rfl, Bg.refl h⟩
theorem Ak.trans {a b c : List α} (h : Ak idf cl a b) (k : Ak idf cl b c) : Ak idf cl a c := ⟨h.1.trans k.1, h.2.trans k.2⟩
theorem Ak.symm (hs : ∀ x y, cl x y = cl y x) {a b : List α} (h : Ak idf cl a b) : Ak idf cl b a := by
  classical
  have hsub := (nodup_len h.2.1.nodup h.2.2.2.1).2 h.1
  refine ⟨h.1.symm, h.2.2.1, h.2.1, hsub, fun x o hb hc ho => ?_⟩
  obtain ⟨hx, -⟩ := bef_mem hb
  have hne := bef_ne h.2.1.nodup hb
  rcases bef_total (h.2.2.2.1 x hx) ho hne with k | k
  · exact k
  · exact absurd (h.2.2.2.2 o x k (by rw [hs]; exact hc) hx) (bef_anti h.2.1.nodup hb)
theorem Ak.swap {p r : List α} {x y : α} (hs : ∀ x y, cl x y = cl y x) (h : Rt idf (p ++ x :: y :: r)) (hc : cl x y = false) : Ak idf cl (p ++ x :: y :: r) (p ++ y :: x :: r) := by
  have hp : (p ++ x :: y :: r).Perm (p ++ y :: x :: r) := List.Perm.append_left p (List.Perm.swap y x r)
  refine ⟨hp.length_eq, h, h.perm hp, fun o ho => (hp.mem_iff).1 ho, fun u o hb hu ho => ?_⟩
  rw [bef_append, bef_cons, bef_cons] at hb ⊢
  rcases hb with hb | ⟨h1, h2⟩ | ⟨rfl, h2⟩ | ⟨rfl, h2⟩ | hb
  · exact .inl hb
  · refine .inr (.inl ⟨h1, ?_⟩)
    simp only [List.mem_cons] at h2 ⊢
    rcases h2 with h2 | h2 | h2
    · exact .inr (.inl h2)
    · exact .inl h2
    · exact .inr (.inr h2)
  · rcases List.mem_cons.1 h2 with rfl | h2
    · rw [hs, hc] at hu
      cases hu
    · exact .inr (.inr (.inr (.inl ⟨rfl, h2⟩)))
  · exact .inr (.inr (.inl ⟨rfl, List.mem_cons_of_mem _ h2⟩))
  · exact .inr (.inr (.inr (.inr hb)))
theorem Bg.rest (hs : ∀ x y, cl x y = cl y x) {a m : List α} (h : Bg idf cl a m) : Ak idf cl (a ++ others idf a m) m := by
  classical
  have hr := h.1.meet h.2.1
  have hin : ∀ o ∈ m, o ∈ a ++ others idf a m := fun o ho => by
    by_cases hi : idf o ∈ a.map idf
    · obtain ⟨z, hz, e⟩ := List.mem_map.1 hi
      rw [h.2.1.inj ho (h.2.2.1 z hz) e.symm]
      exact List.mem_append_left _ hz
    · exact List.mem_append_right _ (mem_others.2 ⟨ho, hi⟩)
  have hout : ∀ o ∈ a ++ others idf a m, o ∈ m := fun o ho => by
    rcases List.mem_append.1 ho with ho | ho
    · exact h.2.2.1 o ho
    · exact (mem_others.1 ho).1
  refine ⟨?_, hr, h.2.1, hout, fun x o hb hc ho => ?_⟩
  · have h1 := (nodup_len hr.nodup hout).1
    have h2 := (nodup_len h.2.1.nodup hin).1
    omega
  · rw [bef_append]
    rcases List.mem_append.1 ho with ho | ho
    · exact .inl (h.2.2.2 x o hb hc ho)
    · have hx := hin x (bef_mem hb).1
      rcases List.mem_append.1 hx with hx | hx
      · exact .inr (.inl ⟨hx, ho⟩)
      · refine .inr (.inr ?_)
        unfold others at hx ho ⊢
        exact (bef_filter _ _ _ _).2 ⟨hb, (List.mem_filter.1 hx).2, (List.mem_filter.1 ho).2⟩
theorem Bg.meet (hs : ∀ x y, cl x y = cl y x) {a b c : List α} (ha : Bg idf cl a c) (hb : Bg idf cl b c) : Bg idf cl b (a ++ others idf a b) ∧ Bg idf cl (a ++ others idf a b) c := by
  have hr := ha.1.meet hb.1
  have key : ∀ o ∈ b, idf o ∈ a.map idf → o ∈ a := fun o ho hi => by
    obtain ⟨z, hz, e⟩ := List.mem_map.1 hi
    rw [ha.2.1.inj (hb.2.2.1 o ho) (ha.2.2.1 z hz) e.symm]
    exact hz
  have hout : ∀ o ∈ a ++ others idf a b, o ∈ c := fun o ho => by
    rcases List.mem_append.1 ho with ho | ho
    · exact ha.2.2.1 o ho
    · exact hb.2.2.1 o (mem_others.1 ho).1
  refine ⟨⟨hb.1, hr, fun o ho => ?_, fun x o hbf hc ho => ?_⟩, hr, ha.2.1, hout, fun x o hbf hc ho => ?_⟩
  · by_cases hi : idf o ∈ a.map idf
    · exact List.mem_append_left _ (key o ho hi)
    · exact List.mem_append_right _ (mem_others.2 ⟨ho, hi⟩)
  · -- x is ahead of o in c, too
    rw [bef_append] at hbf
    rcases hbf with hbf | ⟨hx, ho2⟩ | hbf
    · have hxa := (bef_mem hbf).1
      have hoa := (bef_mem hbf).2
      have hne := bef_ne ha.1.nodup hbf
      rcases bef_total (ha.2.2.1 x hxa) (ha.2.2.1 o hoa) hne with k | k
      · exact hb.2.2.2 x o k hc ho
      · exact absurd (ha.2.2.2 o x k (by rw [hs]; exact hc) hxa) (bef_anti ha.1.nodup hbf)
    · have hne : x ≠ o := by
        rintro rfl
        exact (mem_others.1 ho2).2 (List.mem_map_of_mem hx)
      rcases bef_total (ha.2.2.1 x hx) (hb.2.2.1 o ho) hne with k | k
      · exact hb.2.2.2 x o k hc ho
      · exact absurd (ha.2.2.2 o x k (by rw [hs]; exact hc) hx) (fun hh => (mem_others.1 ho2).2 (List.mem_map_of_mem (bef_mem hh).1))
    · unfold others at hbf
      exact ((bef_filter _ _ _ _).1 hbf).1
  · rw [bef_append]
    by_cases hoa : o ∈ a
    · exact .inl (ha.2.2.2 x o hbf hc hoa)
    · have ho2 : o ∈ others idf a b := (List.mem_append.1 ho).resolve_left hoa
      have hbb := hb.2.2.2 x o hbf hc (mem_others.1 ho2).1
      by_cases hxa : x ∈ a
      · exact .inr (.inl ⟨hxa, ho2⟩)
      · refine .inr (.inr ?_)
        unfold others
        exact (bef_filter _ _ _ _).2 ⟨hbb, by simpa using fun z hz e => hxa (key x (bef_mem hbb).1 (by rw [← e]; exact List.mem_map_of_mem hz)), by simpa using (mem_others.1 ho2).2⟩
end
end Go.My
namespace Go.Proofs.YtcpgamidimfflaaGreat
open Go.RowKit Go.My Go.Maps
set_option linter.unusedSimpArgs false
set_option linter.unusedVariables false
theorem nodup_inj {α : Type} {L : List α} (hn : L.Nodup) {i j : Nat} (hi : i < L.length) (hj : j < L.length) (e : L[i] = L[j]) : i = j := by
  have h := List.pairwise_iff_getElem.1 hn
  rcases Nat.lt_trichotomy i j with k | k | k
  · exact absurd e (h i j hi hj k)
  · exact k
  · exact absurd e.symm (h j i hj hi k)
theorem posF_of {L : List Idk} (hn : L.Nodup) {i : Nat} {k : Idk} (h : L[i]? = some k) : posF L k = some i := by
  have hm : k ∈ L := List.mem_of_getElem? h
  have hs := posF_isSome L k
  rw [decide_eq_true hm] at hs
  obtain ⟨j, hj⟩ := Option.isSome_iff_exists.1 hs
  obtain ⟨hl, he⟩ := posF_some hj
  rw [hj]
  obtain ⟨hi, h⟩ := List.getElem?_eq_some_iff.1 h
  obtain ⟨hl', he⟩ := List.getElem?_eq_some_iff.1 he
  have := nodup_inj hn hl' hi (he.trans h.symm)
  rw [this]
theorem posF_none {L : List Idk} {k : Idk} : posF L k = none ↔ k ∉ L := by
  have := posF_isSome L k
  cases h : posF L k with
  | none => rw [h] at this; simpa using this
  | some i => rw [h] at this; simp at this; simpa using this
theorem idsO_length (l : List Od) : (idsO l).length = l.length := by unfold idsO; rw [List.length_map]
end Go.Proofs.YtcpgamidimfflaaGreat
