/- All knots stand in the row, each once; the graph turned round (lists). The row in which a runner executes, in lists: of the row of knots, each place once, what is open and waits. A chart as a list of accounts in the order of their names: of no program. Contracts of package coins: sums (what charts need of it). Contracts of package chart: names. Contracts of package chart: a chart in memory; New, Open. -/
import Derived.Test.YtcpgamidimfflaaGreatQ05
import Derived.Test.YtcpgamidimfflaaGreatQ02
import Derived.Maps.Ext
import Derived.Maps.OwnSet
import Derived.Sort.KeysCollected
import Derived.Test.YtcpgamidimfflaaGreatChecked
import Derived.RegionCalls
import Derived.Shelf.Spec.BitsCarry
import Derived.Laws.RangeAny
import Derived.Deep.DeepCutAuto
import Derived.Maps.OwnOps
namespace Go.Proofs.YtcpgamidimfflaaGreat
open Go.RowKit Go.My Go.My.Kn Go.Maps
set_option linter.unusedSimpArgs false
set_option linter.unusedVariables false
section
variable {n : Nat} {V : Nat → Nat → Bool}
theorem filter_le {p q : Nat → Bool} : ∀ {l : List Nat}, (∀ x ∈ l, p x = true → q x = true) → (l.filter p).length ≤ (l.filter q).length
  | [], _ => Nat.le_refl _
  | b :: l, h => by
    have ih := filter_le (l := l) fun x hx => h x (List.mem_cons_of_mem _ hx)
    have hb := h b List.mem_cons_self
    rw [List.filter_cons, List.filter_cons]
    cases hp : p b with
    | false => cases hq : q b <;> simp <;> omega
    | true => rw [hb hp]; simp; omega
theorem filter_lt {p q : Nat → Bool} : ∀ {l : List Nat} {a : Nat}, (∀ x ∈ l, p x = true → q x = true) → a ∈ l → q a = true → p a = false → (l.filter p).length < (l.filter q).length
  | [], a, _, ha, _, _ => by cases ha
  | b :: l, a, h, ha, hq, hp => by
    have hle := filter_le (l := l) fun x hx => h x (List.mem_cons_of_mem _ hx)
    have hb := h b List.mem_cons_self
    rw [List.filter_cons, List.filter_cons]
    by_cases e : a = b
    · subst e; rw [hq, hp]; simp; omega
    · have ih := filter_lt (l := l) (fun x hx => h x (List.mem_cons_of_mem _ hx)) ((List.mem_cons.1 ha).resolve_left e) hq hp
      cases hpb : p b with
      | false => cases hqb : q b <;> simp <;> omega
      | true => rw [hb hpb]; simp; omega
def rs (n : Nat) (V : Nat → Nat → Bool) (i : Nat) : List Nat := (List.range n).filter fun j => j == i || V i j
theorem rs_less (h : Go.My.Kn.Reach n V) {i k : Nat} (hi : i < n) (h1 : V i k = true) (h2 : V k i = false) : (rs n V k).length < (rs n V i).length := by
  have hne : i ≠ k := fun e => by subst e; rw [h1] at h2; cases h2
  refine filter_lt (a := i) (fun j _ hj => ?_) (List.mem_range.2 hi) (by simp) (by simp [hne, h2])
  simp only [Bool.or_eq_true, beq_iff_eq] at hj ⊢
  rcases hj with rfl | e
  · exact .inr h1
  · exact .inr (h.tr _ _ _ h1 e)
theorem free_ex (h : Go.My.Kn.Reach n V) {D : List Nat} : ∀ (m i : Nat), (rs n V i).length ≤ m → i < n → nm n V i ∉ D → ∃ j, Free n V D j
  | 0, i, hm, hi, _ => by
    have hiM : i ∈ rs n V i := by unfold rs; rw [List.mem_filter]; exact ⟨List.mem_range.2 hi, by simp⟩
    have := List.length_pos_of_mem hiM
    omega
  | m + 1, i, hm, hi, hD => by
    by_cases hf : ∀ k, V i k = true → V k i = false → nm n V k ∈ D
    · exact ⟨i, hi, hD, hf⟩
    · obtain ⟨k, hk⟩ := Classical.not_forall.1 hf
      obtain ⟨h1, hk⟩ := Classical.not_imp.1 hk
      obtain ⟨h2, h3⟩ := Classical.not_imp.1 hk
      exact free_ex h m k (by have := rs_less h hi h1 h2; omega) (h.lt _ _ h1).2 h3
theorem nm_cls_eq {i j : Nat} (hi : i < n) (hj : j < n) (h : cls n V i = cls n V j) : nm n V i = nm n V j := by
  unfold nm
  rw [h]
  have hs := self_cls (V := V) hj
  cases hc : cls n V j with
  | nil => rw [hc] at hs; cases hs
  | cons a r => rfl
theorem knseq_all (h : Go.My.Kn.Reach n V) {D : List Nat} {L : List (List Nat)} (k : KnSeq n V D L) : (∀ K ∈ L, ∃ i, i < n ∧ nm n V i ∉ D ∧ K = cls n V i) ∧ (∀ i, i < n → nm n V i ∉ D → cls n V i ∈ L) ∧ L.Nodup := by
  induction k with
  | nil hno =>
    refine ⟨fun K hK => (by cases hK), fun i hi hD => ?_, List.nodup_nil⟩
    obtain ⟨j, hj⟩ := free_ex h _ i (Nat.le_refl _) hi hD
    exact absurd hj (hno j)
  | @cons D L a hf hl hk ih =>
    have hn := least_name h hf hl
    obtain ⟨h1, h2, h3⟩ := ih
    refine ⟨fun K hK => ?_, fun i hi hD => ?_, List.nodup_cons.2 ⟨fun hm => ?_, h3⟩⟩
    · rcases List.mem_cons.1 hK with rfl | hK
      · exact ⟨a, hf.1, hf.2.1, rfl⟩
      · obtain ⟨i, hi, hD, e⟩ := h1 K hK
        exact ⟨i, hi, fun e2 => hD (List.mem_cons_of_mem _ e2), e⟩
    · by_cases e : nm n V i = a
      · have hm : mu V a i = true := (nm_eq h hf.1 hi).1 (by rw [hn, e])
        rw [← cls_eq h hm]
        exact List.mem_cons_self
      · exact List.mem_cons_of_mem _ (h2 i hi fun hm => by
          rcases List.mem_cons.1 hm with e2 | e2
          · exact e e2
          · exact hD e2)
    · obtain ⟨i, hi, hD, e⟩ := h1 _ hm
      have e2 := nm_cls_eq hf.1 hi e
      rw [hn] at e2
      exact hD (by rw [← e2]; exact List.mem_cons_self)
end
end Go.Proofs.YtcpgamidimfflaaGreat
namespace Go.Proofs.YtcpgamidimfflaaGreat
open Go.My Go.My.Kn
set_option linter.unusedSimpArgs false
set_option linter.unusedVariables false
section
variable {n : Nat} {V : Nat → Nat → Bool}
theorem seq_mem (h : Go.My.Kn.Reach n V) {L : List (List Nat)} (k : KnSeq n V [] L) (j : Nat) : j ∈ L.flatten ↔ j < n := by
  obtain ⟨h1, h2, -⟩ := knseq_all h k
  rw [List.mem_flatten]
  constructor
  · rintro ⟨K, hK, hj⟩
    obtain ⟨i, _, _, rfl⟩ := h1 K hK
    exact ((mem_cls i j).1 hj).1
  · intro hj
    exact ⟨cls n V j, h2 j hj (fun e => by cases e), self_cls hj⟩
theorem seq_nodup (h : Go.My.Kn.Reach n V) {L : List (List Nat)} (k : KnSeq n V [] L) : L.flatten.Nodup := by
  obtain ⟨h1, -, h3⟩ := knseq_all h k
  unfold List.Nodup
  rw [List.pairwise_flatten]
  refine ⟨fun K hK => ?_, ?_⟩
  · obtain ⟨i, _, _, rfl⟩ := h1 K hK
    exact (cls_up i).imp fun h e => by omega
  · refine List.Pairwise.imp_of_mem (fun {K K'} hK hK' hne => ?_) h3
    obtain ⟨i, _, _, rfl⟩ := h1 K hK
    obtain ⟨i', _, _, rfl⟩ := h1 K' hK'
    intro j hj j' hj' e
    subst e
    refine hne ?_
    rw [cls_eq h ((mem_cls i j).1 hj).2, cls_eq h ((mem_cls i' j).1 hj').2]
end
def runRow (ks : List In2) (L : List (List Nat)) (p : In2 → Bool) : List In2 := (L.flatten.filterMap fun i => ks[i]?).filter p
section
variable {ks : List In2} {L : List (List Nat)} {V : Nat → Nat → Bool}
theorem runRow_mem (h : Go.My.Kn.Reach ks.length V) (k : KnSeq ks.length V [] L) (p : In2 → Bool) (a : In2) : a ∈ runRow ks L p ↔ a ∈ ks ∧ p a = true := by
  unfold runRow
  rw [List.mem_filter, List.mem_filterMap]
  refine and_congr_left fun _ => ?_
  constructor
  · rintro ⟨i, _, hi⟩
    exact List.mem_of_getElem? hi
  · intro ha
    obtain ⟨i, hi, rfl⟩ := List.mem_iff_getElem.1 ha
    exact ⟨i, (seq_mem h k i).2 hi, List.getElem?_eq_getElem hi⟩
theorem runRow_nodup (h : Go.My.Kn.Reach ks.length V) (k : KnSeq ks.length V [] L) (hks : ks.Nodup) (p : In2 → Bool) : (runRow ks L p).Nodup := by
  unfold runRow
  refine List.Pairwise.filter _ ?_
  have key : ∀ l : List Nat, l.Nodup → (∀ i ∈ l, i < ks.length) → (l.filterMap fun i => ks[i]?).Nodup := by
    intro l
    induction l with
    | nil => intro _ _; exact List.nodup_nil
    | cons a l ih =>
      intro hn hl
      rw [List.nodup_cons] at hn
      have ha : a < ks.length := hl a List.mem_cons_self
      rw [List.filterMap_cons, List.getElem?_eq_getElem ha]
      refine List.nodup_cons.2 ⟨fun hm => ?_, ih hn.2 fun i hi => hl i (List.mem_cons_of_mem _ hi)⟩
      obtain ⟨i, hi, he⟩ := List.mem_filterMap.1 hm
      have hil := hl i (List.mem_cons_of_mem _ hi)
      rw [List.getElem?_eq_getElem hil] at he
      injection he with he
      have := (List.getElem_inj hks).1 he
      subst this
      exact hn.1 hi
  exact key _ (seq_nodup h k) fun i hi => (seq_mem h k i).1 hi
end
end Go.Proofs.YtcpgamidimfflaaGreat
namespace Go.My
open Go Go.RowKit Go.Maps
set_option linter.unusedSimpArgs false
set_option linter.unusedVariables false
structure Ac where
  name : List UInt8
  hv : Int
  st : Int
  lim : Int
theorem Ac.ext_ {a b : Ac} (h1 : a.name = b.name) (h2 : a.hv = b.hv) (h3 : a.st = b.st) (h4 : a.lim = b.lim) : a = b := by
  cases a; cases b; simp_all
def Ac.key (a : Ac) : Lit := .string a.name
def Ac.dat (a : Ac) : DataW Unit := .agg [.lit (.string a.name), .lit (.int .i64 a.hv), .lit (.int .i64 a.st), .lit (.int .i64 a.lim)]
def Ac.val (a : Ac) : Value := .agg #[.string ⟨a.name.toArray⟩, .int .i64 a.hv, .int .i64 a.st, .int .i64 a.lim]
theorem Ac.dat_inj {a b : Ac} (h : a.dat = b.dat) : a = b := by
  unfold Ac.dat at h
  simp at h
  exact Ac.ext_ h.1 h.2.1 h.2.2.1 h.2.2.2
def acR : Value → Option (DataW Unit × List MemPlace)
  | .agg cs => match cs.toList with
    | [.string s, .int .i64 a, .int .i64 b, .int .i64 c] => some (Ac.dat ⟨s.data.toList, a, b, c⟩, [])
    | _ => none
  | _ => none
theorem acR_val (a : Ac) : acR a.val = some (a.dat, []) := by simp [acR, Ac.val]
theorem acR_inv {v : Value} {z : DataW Unit × List MemPlace} (h : acR v = some z) : ∃ a : Ac, v = a.val ∧ z = (a.dat, []) := by
  unfold acR at h
  split at h
  · rename_i cs
    split at h
    · rename_i s a b c he
      injection h with h
      refine ⟨⟨s.data.toList, a, b, c⟩, ?_, h.symm⟩
      obtain ⟨l⟩ := cs
      simp only at he
      subst he
      rfl
    · cases h
  · cases h
theorem acR_at {v : Value} {a : Ac} {ps : List MemPlace} (h : acR v = some (a.dat, ps)) : v = a.val := by
  obtain ⟨b, rfl, hb⟩ := acR_inv h
  injection hb with h1 h2
  rw [Ac.dat_inj h1]
def ent (a : Ac) : Lit × DataW Unit := (a.key, a.dat)
def dOf (S : List Ac) : DataW Unit := .map (S.map ent)
def Rise (S : List Ac) : Prop := S.Pairwise fun a b => a.key.before b.key = true
def getA (S : List Ac) (k : List UInt8) : Option Ac := S.find? fun a => a.name == k
def insA (a : Ac) : List Ac → List Ac
  | [] => [a]
  | b :: r => if a.key.before b.key then a :: b :: r else b :: insA a r
def putA (a : Ac) (S : List Ac) : List Ac := insA a (S.filter fun b => !b.key.sameKey a.key)
theorem same_str (x y : List UInt8) : (Lit.string x).sameKey (.string y) = (x == y) := rfl
theorem has_dOf (S : List Ac) (k : List UInt8) : Maps.has (dOf S) (.string k) = (getA S k).isSome := by
  unfold dOf getA
  rw [has_eq, List.any_map]
  induction S with
  | nil => rfl
  | cons a S ih =>
    rw [List.any_cons, ih, List.find?_cons]
    show ((Lit.string a.name).sameKey (.string k) || _) = _
    rw [same_str]
    cases a.name == k <;> rfl
theorem at_dOf (S : List Ac) (k : List UInt8) (z : DataW Unit) : (dOf S).atKey (.string k) z = match getA S k with | some a => a.dat | none => z := by
  unfold dOf getA DataW.atKey
  simp only [List.find?_map]
  have : ((fun p : Lit × DataW Unit => p.1.sameKey (Lit.string k)) ∘ ent) = fun a : Ac => a.name == k := rfl
  rw [this]
  cases S.find? fun a => a.name == k <;> rfl
theorem size_dOf (S : List Ac) : Maps.size (dOf S) = S.length := by
  unfold dOf
  rw [size_eq, List.length_map]
theorem ins_ent (a : Ac) (S : List Ac) : DataW.insert (ent a) (S.map ent) = (insA a S).map ent := by
  induction S with
  | nil => rfl
  | cons b r ih =>
    rw [List.map_cons, DataW.insert, insA]
    show (if a.key.before b.key = true then _ else _) = _
    split
    · rfl
    · rw [ih]; rfl
theorem put_dOf (S : List Ac) (a : Ac) : (dOf S).put a.key a.dat = dOf (putA a S) := by
  unfold dOf DataW.put putA
  simp only
  rw [← ins_ent]
  congr 2
  rw [List.filter_map]
  rfl
theorem getA_some {S : List Ac} {k : List UInt8} {a : Ac} (h : getA S k = some a) : a ∈ S ∧ a.name = k := by
  unfold getA at h
  exact ⟨List.mem_of_find?_eq_some h, by simpa using List.find?_some h⟩
theorem getA_none {S : List Ac} {k : List UInt8} (h : getA S k = none) : ∀ a ∈ S, a.name ≠ k := by
  unfold getA at h
  intro a ha
  simpa using List.find?_eq_none.1 h a ha
theorem isKey_str (x : List UInt8) : WideAt.IsKeyLit (.string x) := by
  unfold WideAt.IsKeyLit
  trivial
theorem isMap_dOf (S : List Ac) : IsMap (dOf S) := ⟨_, rfl⟩
theorem getA_put_same (S : List Ac) (a : Ac) : getA (putA a S) a.name = some a := by
  have h1 := has_dOf (putA a S) a.name
  rw [← put_dOf] at h1
  rw [show a.key = .string a.name from rfl, has_put_same (isMap_dOf S) (isKey_str _)] at h1
  have h2 := at_dOf (putA a S) a.name .nil
  rw [← put_dOf, show a.key = .string a.name from rfl, atKey_put_same (isMap_dOf S) (isKey_str _)] at h2
  cases hg : getA (putA a S) a.name with
  | none => rw [hg] at h1; cases h1
  | some b => rw [hg] at h2; rw [Ac.dat_inj h2]
theorem getA_put_other (S : List Ac) (a : Ac) (k : List UInt8) (h : k ≠ a.name) : getA (putA a S) k = getA S k := by
  have hne : Lit.string k ≠ a.key := by unfold Ac.key; intro e; injection e with e; exact h e
  have h1 := has_dOf (putA a S) k
  rw [← put_dOf, has_put_other hne, has_dOf] at h1
  have h2 := at_dOf (putA a S) k .nil
  rw [← put_dOf, atKey_put_other hne, at_dOf] at h2
  cases hg : getA (putA a S) k <;> cases hg2 : getA S k <;> rw [hg, hg2] at h1 h2
  · cases h1
  · cases h1
  · rw [Ac.dat_inj h2]
theorem mem_insA (a b : Ac) (S : List Ac) : b ∈ insA a S ↔ b = a ∨ b ∈ S := by
  induction S with
  | nil => simp [insA]
  | cons c r ih =>
    unfold insA
    split
    · simp
    · simp [ih]
      constructor
      · rintro (h | h | h)
        · exact .inr (.inl h)
        · exact .inl h
        · exact .inr (.inr h)
      · rintro (h | h | h)
        · exact .inr (.inl h)
        · exact .inl h
        · exact .inr (.inr h)
theorem rise_ins (a : Ac) (S : List Ac) (h : Rise S) (hne : ∀ b ∈ S, b.name ≠ a.name) : Rise (insA a S) := by
  induction S with
  | nil => simp [insA, Rise]
  | cons c r ih =>
    obtain ⟨h1, h2⟩ := List.pairwise_cons.1 h
    unfold insA
    split
    · rename_i hb
      refine List.pairwise_cons.2 ⟨fun q hq => ?_, h⟩
      rcases List.mem_cons.1 hq with rfl | hq
      · exact hb
      · exact WideShapes.before_trans hb (h1 q hq)
    · rename_i hb
      have hca : c.key.before a.key = true := by
        rcases WideAt.bytes_total c.name a.name (hne c List.mem_cons_self) with h' | h'
        · exact h'
        · exact absurd h' hb
      refine List.pairwise_cons.2 ⟨fun q hq => ?_, ih h2 fun b hb => hne b (List.mem_cons_of_mem _ hb)⟩
      rcases (mem_insA a q r).1 hq with rfl | hq
      · exact hca
      · exact h1 q hq
theorem rise_put (a : Ac) (S : List Ac) (h : Rise S) : Rise (putA a S) := by
  refine rise_ins a _ (List.Pairwise.sublist List.filter_sublist h) fun b hb => ?_
  have h1 := (List.mem_filter.1 hb).2
  rw [show b.key.sameKey a.key = (b.name == a.name) from rfl] at h1
  simpa using h1
theorem tidy_dOf {S : List Ac} (h : Rise S) : Tidy (dOf S) := by
  refine ⟨_, rfl, List.pairwise_map.2 (h.imp fun {a b} hab e => ?_)⟩
  have e' : a.key = b.key := e
  rw [e', WideShapes.before_irrefl] at hab
  cases hab
theorem length_put (a : Ac) (S : List Ac) (h : Rise S) : (putA a S).length = if (getA S a.name).isSome then S.length else S.length + 1 := by
  have h1 := size_put (k := a.key) (tidy_dOf h) a.dat
  rw [put_dOf, size_dOf, size_dOf, show a.key = .string a.name from rfl, has_dOf] at h1
  exact h1
theorem before_lt : ∀ (x y : List UInt8), bytesBefore x y = true → x < y
  | [], [], h => by simp [bytesBefore] at h
  | [], _ :: _, _ => List.nil_lt_cons _ _
  | _ :: _, [], h => by simp [bytesBefore] at h
  | a :: r, b :: s, h => by
    simp only [bytesBefore, Bool.or_eq_true, decide_eq_true_eq, Bool.and_eq_true, beq_iff_eq] at h
    rcases h with h | ⟨rfl, h⟩
    · exact List.cons_lt_cons_iff.2 (.inl h)
    · exact List.cons_lt_cons_iff.2 (.inr ⟨rfl, before_lt r s h⟩)
end Go.My
namespace Go.Proofs.YtcpgamidimfflaaGreat
open Go.RowKit Go.My
set_option linter.unusedSimpArgs false
set_option linter.unusedVariables false
def two64 (x : Int) : Value := .tuple #[.int .i64 (sumV x), .int .i64 (sumN x : Int)]
theorem two64_in {x : Int} (h : In64 x) : two64 x = .tuple #[.int .i64 x, .int .i64 0] := by unfold two64; rw [sumV_in h, sumN_in h]; rfl
theorem two64_out {x : Int} (h : ¬ In64 x) : two64 x = .tuple #[.int .i64 0, .int .i64 2] := by unfold two64; rw [sumV_out h, sumN_out h]; rfl
theorem add_any (a b : Int) (w : World) (ha : In64 a) (hb : In64 b) :
    Calls Tryz.prog 271 #[.int .i64 a, .int .i64 b] w fun e w' => e = .returned (two64 (a + b)) ∧ w = w' := by
  have HA := Lib.hid ha
  have HB := Lib.hid hb
  clear ha hb
  have hw := Lib.hid (wrap64_eq (a + b))
  by_cases h1 : 0 ≤ b <;> by_cases h2 : a ≤ wrap64 (a + b)
  all_goals
    go_enter Tryz.func271, Tryz.ntmps271
    go_wp2
    go_ret2
    have h3 := HA.out
    have h4 := HB.out
    have h5 := hw.out
    unfold In64 at h3 h4
    first
      | (rw [two64_in (by unfold In64; omega)]
         exact ⟨by rw [show wrap64 (a + b) = a + b by omega]; rfl, rfl⟩)
      | (rw [two64_out (by unfold In64; omega)]
         exact ⟨rfl, rfl⟩)
theorem less_any (a b : Int) (w : World) (ha : In64 a) (hb : In64 b) :
    Calls Tryz.prog 284 #[.int .i64 a, .int .i64 b] w fun e w' => e = .returned (two64 (a - b)) ∧ w = w' := by
  have HA := Lib.hid ha
  have HB := Lib.hid hb
  clear ha hb
  have hw := Lib.hid (wrap64_eq (a - b))
  by_cases h1 : 0 ≤ b <;> by_cases h2 : wrap64 (a - b) ≤ a
  all_goals
    go_enter Tryz.func284, Tryz.ntmps284
    go_wp2
    go_ret2
    have h3 := HA.out
    have h4 := HB.out
    have h5 := hw.out
    unfold In64 at h3 h4
    first
      | (rw [two64_in (by unfold In64; omega)]
         exact ⟨by rw [show wrap64 (a - b) = a - b by omega]; rfl, rfl⟩)
      | (rw [two64_out (by unfold In64; omega)]
         exact ⟨rfl, rfl⟩)
theorem add64 (x y c : Int) (hx : 0 ≤ x) (hx' : x < 18446744073709551616) (hy : 0 ≤ y) (hy' : y < 18446744073709551616) (hc0 : 0 ≤ c) (hc : c ≤ 1) (w : World) : (callFunc 288 #[.int .u64 x, .int .u64 y, .int .u64 c]).run Tryz.prog w =
    .ok (.value (.tuple #[.int .u64 ((x + y + c) % 18446744073709551616), .int .u64 ((x + y + c) / 18446744073709551616)])) w := by
  obtain ⟨x, rfl⟩ := Int.eq_ofNat_of_zero_le hx
  obtain ⟨y, rfl⟩ := Int.eq_ofNat_of_zero_le hy
  obtain ⟨c, rfl⟩ := Int.eq_ofNat_of_zero_le hc0
  rw [run_callFunc_extern Tryz.func288 (by kernel_rfl) (by kernel_rfl) (by kernel_rfl) (e := add64Entry) (by kernel_rfl), run_add64 x y c (by omega) (by omega) (by omega) (by omega)]
  simp only [Result.andThen]
theorem add64_0 (x y : Int) (hx : 0 ≤ x) (hx' : x < 18446744073709551616) (hy : 0 ≤ y) (hy' : y < 18446744073709551616) (w : World) : (callFunc 288 #[.int .u64 x, .int .u64 y, .int .u64 0]).run Tryz.prog w =
    .ok (.value (.tuple #[.int .u64 ((x + y) % 18446744073709551616), .int .u64 ((x + y) / 18446744073709551616)])) w := by
  simpa using add64 x y 0 hx hx' hy hy' (Int.le_refl 0) (by decide) w
def TotRel (w : World) (l : List Int) (hv lv iv : Value) (wr : World) : Prop :=
  ∃ k : Nat, k ≤ l.length ∧ iv = .int .i64 k ∧ hv = .int .u64 ((total (l.take k) / 18446744073709551616) % 18446744073709551616) ∧ lv = .int .u64 (total (l.take k) % 18446744073709551616) ∧ wr = w
set_option maxHeartbeats 1000000 in
theorem total_any (F : Nat → Prop) (A : Option Addr) (c : Nat) (l : List Int) (w : World) (hr : Rd w F 1 A l.length (is_ l)) (hI : ∀ x ∈ l, In64 x) (hl : l.length ≤ 1000000) :
    Calls Tryz.prog 282 #[.slice A l.length c] w fun e w' => e = .returned (two64 (total l)) ∧ w = w' := by
  have HR := Lib.hid hr
  have HI := Lib.hid hI
  clear hr hI
  go_enter Tryz.func282, Tryz.ntmps282
  go_wp2
  go_loopw [4, 5, 11] (fun hv lv iv wr => TotRel w l hv lv iv wr) (fun _ _ iv _ => l.length - (intOf iv).toNat)
  case atStart => exact ⟨0, Nat.zero_le _, rfl, rfl, rfl, rfl⟩
  case round =>
    obtain ⟨k, hk, rfl, rfl, rfl, rfl⟩ := hrel
    by_cases hlt : k < l.length
    · obtain ⟨ad, u, rfl, _, hx, hc⟩ := HR.out.at_ hlt
      rw [is_get l k hlt] at hx
      injection hx with hx
      subst hx
      have htk : l.take (k + 1) = l.take k ++ [l[k]] := List.take_succ_eq_append_getElem hlt
      have hts : total (l.take (k + 1)) = total (l.take k) + l[k] := by rw [htk, total_append]; simp [total_cons, total_nil]
      have HT := Lib.hid hts
      have HX := Lib.hid (HI.out l[k] (List.getElem_mem hlt))
      clear htk hts
      generalize l[k] = x at *
      generalize total (l.take k) = S at *
      have hx := HX.out
      unfold In64 at hx
      obtain ⟨xm, hxm⟩ : ∃ xm, xm = IntKind.u64.wrap x := ⟨_, rfl⟩
      have hxw : xm = x % 18446744073709551616 := by rw [hxm, IntKind.wrap_u64]
      obtain ⟨xh, hxh⟩ : ∃ xh, xh = IntKind.u64.wrap (x / 9223372036854775808) := ⟨_, rfl⟩
      have hxhw : xh = (x / 9223372036854775808) % 18446744073709551616 := by rw [hxh, IntKind.wrap_u64]
      obtain ⟨lo, hlo⟩ : ∃ lo, lo = S % 18446744073709551616 := ⟨_, rfl⟩
      obtain ⟨hi, hhi⟩ : ∃ hi, hi = (S / 18446744073709551616) % 18446744073709551616 := ⟨_, rfl⟩
      rw [← hlo, ← hhi]
      have A1 := fun W => add64_0 lo xm (by omega) (by omega) (by omega) (by omega) W
      have A2 := fun W => add64 hi xh ((lo + xm) / 18446744073709551616) (by omega) (by omega) (by omega) (by omega) (by omega) (by omega) W
      have HEND : Hid (TotRel wr l (.int .u64 ((hi + xh + (lo + xm) / 18446744073709551616) % 18446744073709551616)) (.int .u64 ((lo + xm) % 18446744073709551616)) (.int .i64 ((k : Int) + 1)) wr) := by
        refine ⟨k + 1, by omega, by go_num, ?_, ?_, rfl⟩
        · rw [HT.out]
          congr 1
          omega
        · rw [HT.out]
          congr 1
          omega
      rw [hxm] at A1 A2 HEND
      rw [hxh] at A2 HEND
      clear hlo hhi hxw hxhw hx hxm hxh HT
      go_wp2
      exact ⟨HEND.out, by simp [intOf]; omega⟩
    · obtain rfl : k = l.length := by omega
      rw [List.take_length]
      have hb := total_bound l HI.out
      have hw1 := wrap64_eq ((total l / 18446744073709551616) % 18446744073709551616)
      have hw2 := wrap64_eq (total l % 18446744073709551616)
      have HS : Hid (∃ S, S = total l) := ⟨_, rfl⟩
      obtain ⟨S, hS⟩ := HS.out
      rw [← hS] at hb hw1 hw2 ⊢
      have q1 : -1000000 ≤ S / 18446744073709551616 ∧ S / 18446744073709551616 ≤ 1000000 := by omega
      have q2 : wrap64 (S / 18446744073709551616 % 18446744073709551616) = S / 18446744073709551616 := by omega
      have q3 : wrap64 (S % 18446744073709551616) / 9223372036854775808 = if S % 18446744073709551616 < 9223372036854775808 then 0 else -1 := by
        split <;> omega
      by_cases hin : In64 S
      · have e1 : wrap64 (S % 18446744073709551616) = S := by unfold In64 at hin; omega
        have e2 : (wrap64 (S / 18446744073709551616 % 18446744073709551616) != wrap64 (S % 18446744073709551616) / 9223372036854775808) = false := by
          rw [bne_eq_false_iff_eq, q2, q3]
          unfold In64 at hin
          split <;> omega
        have HIN := Lib.hid hin
        have HSS := Lib.hid hS
        have E1 := Lib.hid e1
        clear hin hb hw1 hw2 hS e1 q1 q2 q3
        go_wp2
        go_ret2
        rw [← HSS.out, two64_in HIN.out]
        refine ⟨?_, rfl⟩
        have := E1.out
        simp [this]
      · have e2 : (wrap64 (S / 18446744073709551616 % 18446744073709551616) != wrap64 (S % 18446744073709551616) / 9223372036854775808) = true := by
          rw [bne_iff_ne, q2, q3]
          unfold In64 at hin
          split <;> omega
        have HIN := Lib.hid hin
        have HSS := Lib.hid hS
        clear hin hb hw1 hw2 hS q1 q2 q3
        go_wp2
        go_ret2
        rw [← HSS.out, two64_out HIN.out]
        exact ⟨rfl, rfl⟩
end Go.Proofs.YtcpgamidimfflaaGreat
namespace Go.Proofs.YtcpgamidimfflaaGreat
open Go.RowKit Go.My
set_option linter.unusedSimpArgs false
set_option linter.unusedVariables false
def okc (c : UInt8) : Bool := decide ((97 ≤ c.toNat ∧ c.toNat ≤ 122) ∨ (48 ≤ c.toNat ∧ c.toNat ≤ 57))
def nameB (l : List UInt8) : Bool := l.all okc && (decide (1 ≤ l.length) && decide (l.length ≤ 8))
theorem name_bad (l : List UInt8) (k : Nat) (c : UInt8) (hk : l[k]? = some c) (h : okc c = false) : nameB l = false := by
  unfold nameB
  have : l.all okc = false := by
    rw [List.all_eq_false]
    exact ⟨c, List.mem_of_getElem? hk, by rw [h]; simp⟩
  rw [this]
  rfl
theorem name_end (l : List UInt8) (h : l.all okc = true) : nameB l = (decide (1 ≤ l.length) && decide (l.length ≤ 8)) := by unfold nameB; rw [h]; rfl
theorem take_ok (s : ByteArray) (k : Nat) (h : k < s.size) (hk : (s.data.toList.take k).all okc = true) (hc : okc s[k] = true) : (s.data.toList.take (k + 1)).all okc = true := by
  have : s.data.toList.take (k + 1) = s.data.toList.take k ++ [s[k]] := by
    rw [List.take_succ_eq_append_getElem (by simpa using h)]; rfl
  rw [this, List.all_append, hk]
  simp [hc]
theorem at_k (s : ByteArray) (k : Nat) (h : k < s.size) : s.data.toList[k]? = some s[k] := by
  rw [List.getElem?_eq_getElem (by simpa using h)]; rfl
def NmRel (s : ByteArray) (w wr : World) : Prop := ∃ k : Nat, k ≤ s.size ∧ wr = w.iter s k ∧ (s.data.toList.take k).all okc = true
set_option maxHeartbeats 1000000 in
theorem name_any (s : ByteArray) (w : World) (hs : s.size ≤ maxLen) : Calls Tryz.prog 115 #[.string s] w fun e w' => e = .returned (.bool (nameB s.data.toList)) ∧ Below w.heap.size w w' := by
  have hsz : s.size ≤ 9223372036854775807 := by simp only [maxLen] at hs; omega
  have hbel : Hid (∀ k, Below w.heap.size w (w.iter s k)) := fun k => (Below.refl _ _).alloc (Nat.le_refl _) _
  have hlen : Hid (s.data.toList.length = s.size) := by show _ = _; simp
  clear hs
  go_enter Tryz.func115, Tryz.ntmps115
  go_wp2
  go_loopw [4] (fun _ wr => NmRel s w wr) (fun _ wr => s.size - wr.iterPos w.heap.size)
  case atStart => exact ⟨0, Nat.zero_le _, rfl, by simp⟩
  case round =>
    obtain ⟨k, hk, rfl, hall⟩ := hrel
    have HALL := Lib.hid hall
    clear hall
    by_cases hlt : k < s.size
    · have hb256 : s[k].toNat < 256 := UInt8.toNat_lt _
      have HAT := Lib.hid (at_k s k hlt)
      by_cases ha : s[k].toNat < 128
      · have hnx := fun ty => run_next_ascii (P := Tryz.prog) w s k ty hlt ha
        by_cases hc : (97 ≤ s[k].toNat ∧ s[k].toNat ≤ 122) ∨ (48 ≤ s[k].toNat ∧ s[k].toNat ≤ 57)
        · have hok : Hid ((s.data.toList.take (k + 1)).all okc = true) := take_ok s k hlt HALL.out (by unfold okc; exact decide_eq_true hc)
          rcases hc with ⟨c1, c2⟩ | ⟨c1, c2⟩
          · have d1 : ¬ ((s[k].toNat : Int) < 97) := by omega
            have d2 : ¬ (122 < (s[k].toNat : Int)) := by omega
            go_wp2
            exact ⟨⟨k + 1, hlt, rfl, hok.out⟩, by simp only [World.iterPos_iter]; omega⟩
          · have d1 : ((s[k].toNat : Int) < 97) := by omega
            have d3 : ¬ ((s[k].toNat : Int) < 48) := by omega
            have d4 : ¬ (57 < (s[k].toNat : Int)) := by omega
            go_wp2
            exact ⟨⟨k + 1, hlt, rfl, hok.out⟩, by simp only [World.iterPos_iter]; omega⟩
        · have hbad : Hid (nameB s.data.toList = false) := name_bad _ k _ HAT.out (by unfold okc; exact decide_eq_false hc)
          by_cases c1 : s[k].toNat < 48
          · have d1 : ((s[k].toNat : Int) < 97) := by omega
            have d3 : ((s[k].toNat : Int) < 48) := by omega
            clear hc
            go_wp2
            go_ret
            exact ⟨by rw [hbad.out]; rfl, hbel.out _⟩
          · have d3 : ¬ ((s[k].toNat : Int) < 48) := by omega
            by_cases c2 : s[k].toNat < 97
            · have d1 : ((s[k].toNat : Int) < 97) := by omega
              have d4 : (57 < (s[k].toNat : Int)) := by omega
              clear hc
              go_wp2
              go_ret
              exact ⟨by rw [hbad.out]; rfl, hbel.out _⟩
            · have d1 : ¬ ((s[k].toNat : Int) < 97) := by omega
              have d2 : (122 < (s[k].toNat : Int)) := by omega
              have d4 : (57 < (s[k].toNat : Int)) := by omega
              clear hc
              go_wp2
              go_ret
              exact ⟨by rw [hbad.out]; rfl, hbel.out _⟩
      · have hbad : Hid (nameB s.data.toList = false) := name_bad _ k _ HAT.out (by unfold okc; exact decide_eq_false (by omega))
        have hnx := fun ty => run_next_any (P := Tryz.prog) w s k ty hlt
        obtain ⟨hd1, hd2⟩ := decode_high s k hlt (by omega)
        generalize (Utf8.decode s k).1 = r at *
        generalize (Utf8.decode s k).2 = wd at *
        have d1 : ¬ ((r : Int) < 97) := by omega
        have d2 : (122 < (r : Int)) := by omega
        have d3 : ¬ ((r : Int) < 48) := by omega
        have d4 : (57 < (r : Int)) := by omega
        go_wp2
        go_ret
        exact ⟨by rw [hbad.out]; rfl, hbel.out _⟩
    · obtain rfl : k = s.size := by omega
      have hend : Hid (nameB s.data.toList = (decide (1 ≤ s.size) && decide (s.size ≤ 8))) := by
        show _ = _
        rw [name_end, hlen.out]
        have h := HALL.out
        rwa [← hlen.out, List.take_length] at h
      have hnx := fun ty => run_next_end (P := Tryz.prog) w s s.size ty hlt
      by_cases e1 : 1 ≤ s.size
      · go_wp2
        go_ret
        refine ⟨?_, hbel.out _⟩
        rw [hend.out, decide_eq_true e1, Bool.true_and, show decide (s.size ≤ 8) = decide ((s.size : Int) ≤ 8) from by rw [decide_eq_decide]; omega]
        rfl
      · go_wp2
        go_ret
        exact ⟨by rw [hend.out, decide_eq_false e1]; rfl, hbel.out _⟩
end Go.Proofs.YtcpgamidimfflaaGreat
namespace Go.Proofs.YtcpgamidimfflaaGreat
open Go.RowKit Go.My Go.Maps
set_option linter.unusedSimpArgs false
set_option linter.unusedVariables false
theorem law : Keyed Tryz.prog 9 := string_keyed Tryz.underlying9
theorem zeroA (w : World) : (zeroValue 124).run Tryz.prog w = .ok (.agg #[.string ByteArray.empty, .int .i64 0, .int .i64 0, .int .i64 0]) w := by kernel_rfl
def noA : Ac := ⟨[], 0, 0, 0⟩
def MpS (w : World) (m : Nat) (S : List Ac) : Prop := w.ownsMap Tryz.prog 9 acR m S.length (dOf S) ∧ Rise S
def ChS (w : World) (p m : Nat) (S : List Ac) : Prop := Blk w p 186 #[.map (some m)] ∧ MpS w m S
section
variable {w w' : World} {p m : Nat} {S S' : List Ac}
theorem owns_len {n : Nat} (h : w.ownsMap Tryz.prog 9 acR m n (dOf S)) : w.ownsMap Tryz.prog 9 acR m S.length (dOf S) := by
  obtain ⟨es, clock, hb, F, hs, hD⟩ := h
  refine ⟨es, clock, hb, F, ?_, hD⟩
  have h1 := size_dOf S
  rw [hD, Maps.size_eq, length_sorted, List.length_map] at h1
  simp at h1
  omega
theorem MpS.lt (h : MpS w m S) : m < w.heap.size := h.1.lt
theorem MpS.fr {F : Nat → Prop} (h : MpS w m S) (hf : Fr F w w') (hn : ¬ F m) : MpS w' m S := by
  obtain ⟨⟨es, clock, hb, r⟩, hr⟩ := h
  exact ⟨⟨es, clock, (hf.block m (Array.getElem?_eq_some_iff.1 hb).1 hn).trans hb, r⟩, hr⟩
theorem MpS.ne_ {g : Nat} {t : TypeId} {cs : Array Value} (h : MpS w m S) (hg : Blk w g t cs) : m ≠ g := by
  rintro rfl
  obtain ⟨⟨es, clock, hb, _⟩, _⟩ := h
  unfold Blk at hg
  rw [hb] at hg
  cases hg
theorem ChS.ne_ (h : ChS w p m S) : m ≠ p := h.2.ne_ h.1
theorem ChS.fr {F : Nat → Prop} (h : ChS w p m S) (hf : Fr F w w') (hp : ¬ F p) (hn : ¬ F m) : ChS w' p m S := ⟨h.1.fr hf hp, h.2.fr hf hn⟩
theorem ChS.no (h : ChS w p m S) (hf : Fr No w w') : ChS w' p m S := h.fr hf (fun h => h) (fun h => h)
theorem ChS.below {B : Nat} (h : ChS w p m S) (hb : Below B w w') (hp : p < B) (hm : m < B) : ChS w' p m S := by
  refine ⟨h.1.below hb hp, ?_⟩
  obtain ⟨⟨es, clock, hm1, r⟩, hr⟩ := h.2
  exact ⟨⟨es, clock, (hb.block m hm).trans hm1, r⟩, hr⟩
theorem key_mk (s : ByteArray) (hs : s.size ≤ maxLen) : keyOf Tryz.prog 9 (.string s) = some (.string s.data.toList) := Go.WideMaps.keyOf_string_mk Tryz.underlying9 hs
theorem MpS.look (h : MpS w m S) (s : ByteArray) (hs : s.size ≤ maxLen) :
    (Instr.lookup 184 (.map (some m)) (.string s) true).run Tryz.prog w = .ok (.tuple #[((getA S s.data.toList).getD noA).val, .bool (getA S s.data.toList).isSome]) w := by
  obtain ⟨v, ps, hrun, hv⟩ := h.1.look_ok law Tryz.underlying184 (zeroA w) (acR_val noA) (key_mk s hs)
  rw [has_dOf] at hrun
  rw [at_dOf] at hv
  cases hg : getA S s.data.toList with
  | none =>
    rw [hg] at hrun hv
    rw [acR_at hv] at hrun
    exact hrun
  | some a =>
    rw [hg] at hrun hv
    rw [acR_at hv] at hrun
    exact hrun
theorem MpS.look_none (h : MpS w m S) (s : ByteArray) (hs : s.size ≤ maxLen) (hg : getA S s.data.toList = none) :
    (Instr.lookup 184 (.map (some m)) (.string s) true).run Tryz.prog w = .ok (.tuple #[.agg #[.string ByteArray.empty, .int .i64 0, .int .i64 0, .int .i64 0], .bool false]) w := by
  have h1 := h.look s hs
  rw [hg] at h1
  exact h1
theorem MpS.look_some (h : MpS w m S) (s : ByteArray) (hs : s.size ≤ maxLen) (a : Ac) (hg : getA S s.data.toList = some a) :
    (Instr.lookup 184 (.map (some m)) (.string s) true).run Tryz.prog w = .ok (.tuple #[.agg #[.string ⟨a.name.toArray⟩, .int .i64 a.hv, .int .i64 a.st, .int .i64 a.lim], .bool true]) w := by
  have h1 := h.look s hs
  rw [hg] at h1
  exact h1
theorem MpS.len (h : MpS w m S) (ty : TypeId) : (Builtin.len_ #[184] ty #[.map (some m)]).run Tryz.prog w = .ok (.int .i64 (S.length : Int)) w := by
  have h1 := h.1.len Tryz.underlying184 ty
  rwa [size_dOf] at h1
theorem MpS.put (h : MpS w m S) (a : Ac) (hs : a.name.length ≤ maxLen) (hl : S.length < maxLen) :
    ∃ w', (Instr.mapUpdate 184 (.map (some m)) (.string ⟨a.name.toArray⟩) a.val).run Tryz.prog w = .ok () w' ∧ MpS w' m (putA a S) ∧ Fr (At1 m) w w' := by
  obtain ⟨w', hrun, hown, hg⟩ := h.1.update law Tryz.underlying184 hl (key_mk ⟨a.name.toArray⟩ hs) (acR_val a)
  have hown' : w'.ownsMap Tryz.prog 9 acR m (S.length + 1) (dOf (putA a S)) := by
    rw [← put_dOf]
    exact hown
  refine ⟨w', hrun, ⟨owns_len hown', rise_put a S h.2⟩, ⟨hg.os, hg.tape, hg.output, hg.size, fun k hk hn => hg.block k hk (fun e => hn ?_)⟩⟩
  injection e with e
theorem wpList_putA (w : World) {ops : Array Oper} {rest : List Oper} {o : Oper} {a : Act} {Q : Exit → Act → World → Prop} (hg : o.guard = none) (x y z : Operand) (hop : o.op = Op.mapUpdate 184 x y z)
    {b : Nat} {S : List Ac} (hx : a.eval x = .map (some b)) (h : MpS w b S) (A : Ac) (hy : a.eval y = .string ⟨A.name.toArray⟩) (hz : a.eval z = A.val) (hs : A.name.length ≤ maxLen) (hl : S.length < maxLen)
    (hK : ∀ w', MpS w' b (putA A S) → Fr (At1 b) w w' → wpList Tryz.prog ops Q rest (a.put o.dst undef) w') : wpList Tryz.prog ops Q (o :: rest) a w := by
  refine wpList_plain hg fun K' hK' => ?_
  obtain ⟨w', hrun, r1, r2⟩ := h.put A hs hl
  unfold Oper.wp
  simp [execOp, hop, hx, hy, hz, hrun, Result.andThen]
  exact hK' _ _ (hK w' r1 r2)
end
def MadeC (w : World) (e : Ending) (w' : World) : Prop := ∃ p m, e = .returned (.pointer (some ⟨p, 0, none⟩)) ∧ ChS w' p m [] ∧ Fr No w w' ∧ w.heap.size ≤ p ∧ w.heap.size ≤ m
theorem new_any (w : World) : Calls Tryz.prog 79 #[] w (MadeC w) := by
  have hmm := @run_makeMap Tryz.prog
  go_enter Tryz.func79, Tryz.ntmps79
  go_wp2
  go_ret
  have hbk := Blk.new (w.alloc (.map #[] 0)) 186 #[.map (some w.heap.size)]
  rw [World.size_alloc] at hbk
  refine ⟨_, w.heap.size, rfl, ⟨hbk, ?_⟩, ((Fr.refl _ _).alloc _).alloc _, by simp, by omega⟩
  have h : MpS (w.alloc (.map #[] 0)) w.heap.size [] := ⟨World.ownsMap_made _ _ _ _, List.Pairwise.nil⟩
  exact h.fr ((Fr.refl No _).alloc _) (fun h => h)
def openE (S : List Ac) (nm : List UInt8) (lim : Int) : Int := if nameB nm = false ∨ lim < 0 then 1 else if (getA S nm).isSome then 7 else if 12 ≤ S.length then 5 else 0
def openS (S : List Ac) (nm : List UInt8) (lim : Int) : List Ac := if openE S nm lim = 0 then putA ⟨nm, 0, 0, lim⟩ S else S
set_option maxRecDepth 100000 in
set_option maxHeartbeats 2000000 in
theorem open_any (p m : Nat) (S : List Ac) (s : ByteArray) (lim : Int) (w : World) (h : ChS w p m S) (hs : s.size ≤ maxLen) (hlim : In64 lim) (hS : S.length ≤ 12) :
    Calls Tryz.prog 198 #[.pointer (some ⟨p, 0, none⟩), .string s, .int .i64 lim] w fun e w' => e = .returned (.int .i64 (openE S s.data.toList lim)) ∧ ChS w' p m (openS S s.data.toList lim) ∧ Fr (At1 m) w w' := by
  have HNM := Lib.hid (name_any s w hs)
  have HS := Lib.hid hs
  have HC := Lib.hid h
  have hpl := h.1.lt
  have hml := h.2.lt
  have HNE := Lib.hid h.ne_
  clear h hs hlim
  cases hn : nameB s.data.toList
  · have HE : Hid (openE S s.data.toList lim = 1 ∧ openS S s.data.toList lim = S) := by
      have h1 : openE S s.data.toList lim = 1 := by unfold openE; rw [if_pos (.inl hn)]
      exact ⟨h1, by unfold openS; rw [h1, if_neg (by decide)]⟩
    rw [hn] at HNM
    clear hn
    go_enter Tryz.func198, Tryz.ntmps198
    go_wp2_with (go_at_call 115; refine HNM.out.mono ?_; rintro e w1 ⟨rfl, hb1⟩)
    go_ret
    refine ⟨by rw [HE.out.1]; rfl, ?_, Fr.of_below hb1 _⟩
    rw [HE.out.2]
    exact HC.out.below hb1 hpl hml
  · rw [hn] at HNM
    by_cases hl : lim < 0
    · have HE : Hid (openE S s.data.toList lim = 1 ∧ openS S s.data.toList lim = S) := by
        have h1 : openE S s.data.toList lim = 1 := by unfold openE; rw [if_pos (.inr hl)]
        exact ⟨h1, by unfold openS; rw [h1, if_neg (by decide)]⟩
      clear hn
      go_enter Tryz.func198, Tryz.ntmps198
      go_wp2_with (go_at_call 115; refine HNM.out.mono ?_; rintro e w1 ⟨rfl, hb1⟩)
      go_ret
      refine ⟨by rw [HE.out.1]; rfl, ?_, Fr.of_below hb1 _⟩
      rw [HE.out.2]
      exact HC.out.below hb1 hpl hml
    · have hE1 : openE S s.data.toList lim = if (getA S s.data.toList).isSome then 7 else if 12 ≤ S.length then 5 else 0 := by
        unfold openE
        rw [if_neg (by rw [hn]; simp; omega)]
      clear hn
      go_enter Tryz.func198, Tryz.ntmps198
      go_wp2_with fail
      refine HNM.out.mono ?_
      rintro e w1 ⟨rfl, hb1⟩
      have hC1 := HC.out.below hb1 hpl hml
      have c0 := hC1.1.cell 0
      have f0 := hC1.1.frozen 0
      simp only [List.getElem?_toArray, List.getElem?_cons_zero] at c0
      have hml1 := hC1.2.lt
      have hpl1 := hC1.1.lt
      cases hg : getA S s.data.toList with
      | some a =>
        have hlk := hC1.2.look_some s HS.out a hg
        have HE : Hid (openE S s.data.toList lim = 7 ∧ openS S s.data.toList lim = S) := by
          have h1 : openE S s.data.toList lim = 7 := by rw [hE1, hg]; rfl
          exact ⟨h1, by unfold openS; rw [h1, if_neg (by decide)]⟩
        clear hg hE1
        go_wp2
        go_ret
        refine ⟨by rw [HE.out.1]; rfl, ?_, (Fr.of_below hb1 _).trans ((Fr.refl _ _).alloc _)⟩
        rw [HE.out.2]
        exact hC1.no ((Fr.refl _ _).alloc _)
      | none =>
        have hlk := hC1.2.look_none s HS.out hg
        have hlen := fun (o : Obj) ty => (hC1.no ((Fr.refl _ w1).alloc o)).2.len ty
        have HC2 := Lib.hid fun (o : Obj) => hC1.no ((Fr.refl _ w1).alloc o)
        have HF2 : Hid (∀ o : Obj, Fr (At1 m) w (w1.alloc o)) := fun o => (Fr.of_below hb1 _).trans ((Fr.refl _ _).alloc _)
        have hnil := fun W => run_eql_map_nil (P := Tryz.prog) W 184 _ _ (some m) Tryz.underlying184
        by_cases h12 : 12 ≤ S.length
        · have HE : Hid (openE S s.data.toList lim = 5 ∧ openS S s.data.toList lim = S) := by
            have h1 : openE S s.data.toList lim = 5 := by rw [hE1, hg, if_neg (by simp), if_pos h12]
            exact ⟨h1, by unfold openS; rw [h1, if_neg (by decide)]⟩
          have h12' : (12 : Int) ≤ (S.length : Int) := by omega
          clear hg hE1 h12
          go_wp2
          go_ret
          refine ⟨by rw [HE.out.1]; rfl, ?_, HF2.out _⟩
          rw [HE.out.2]
          exact HC2.out _
        · have HE : Hid (openE S s.data.toList lim = 0 ∧ openS S s.data.toList lim = putA ⟨s.data.toList, 0, 0, lim⟩ S) := by
            have h1 : openE S s.data.toList lim = 0 := by rw [hE1, hg, if_neg (by simp), if_neg h12]
            exact ⟨h1, by unfold openS; rw [h1, if_pos rfl]⟩
          have h12' : ¬ (12 : Int) ≤ (S.length : Int) := by omega
          have hmx : Hid (S.length < maxLen) := by show _ < _; unfold maxLen; omega
          clear hg hE1 h12
          go_wp2_with (at_mapUpdate; refine wpList_putA _ rfl (.tmp 48) (.tmp 49) (.tmp 52) rfl rfl (HC2.out _).2 ⟨s.data.toList, 0, 0, lim⟩ rfl rfl (by have h := HS.out; simpa using h) hmx.out ?_; intro w3 hm3 hf3)
          go_ret
          refine ⟨by rw [HE.out.1]; rfl, ?_, (HF2.out _).trans hf3⟩
          rw [HE.out.2]
          exact ⟨(HC2.out _).1.fr hf3 (fun h => HNE.out h.symm), hm3⟩
end Go.Proofs.YtcpgamidimfflaaGreat
