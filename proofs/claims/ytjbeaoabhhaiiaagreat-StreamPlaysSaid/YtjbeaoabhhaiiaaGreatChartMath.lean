/- A chart as a list of accounts in the order of their names: of no program. -/
import Derived.Test.YtjbeaoabhhaiiaaGreatCoinsMath
import Derived.Test.YtjbeaoabhhaiiaaGreatLib
import Derived.Maps.Ext
import Derived.Maps.OwnSet
import Derived.Sort.KeysCollected
namespace Go.My
open Go Go.RowKit Go.Maps
set_option linter.unusedSimpArgs false
set_option linter.unusedVariables false

/-- an account -/
structure Ac where
  name : List UInt8
  hv : Int
  st : Int
  lim : Int
theorem Ac.ext_ {a b : Ac} (h1 : a.name = b.name) (h2 : a.hv = b.hv) (h3 : a.st = b.st) (h4 : a.lim = b.lim) : a = b := by
  cases a; cases b; simp_all
def Ac.key (a : Ac) : Lit := .string a.name
def Ac.dat (a : Ac) : DataW Unit := .agg [.lit (.string a.name), .lit (.int .i64 a.hv), .lit (.int .i64 a.st), .lit (.int .i64 a.lim)]
def Ac.val (a : Ac) : Value := .agg #[.string ⟨a.name.toArray⟩, .int .i64 a.hv, .int .i64 a.st, .int .i64 a.lim]
theorem Ac.dat_inj {a b : Ac} (h : a.dat = b.dat) : a = b := by
  unfold Ac.dat at h
  simp at h
  exact Ac.ext_ h.1 h.2.1 h.2.2.1 h.2.2.2
/-- how an account's value reads -/
def acR : Value → Option (DataW Unit × List MemPlace)
  | .agg cs => match cs.toList with
    | [.string s, .int .i64 a, .int .i64 b, .int .i64 c] => some (Ac.dat ⟨s.data.toList, a, b, c⟩, [])
    | _ => none
  | _ => none
theorem acR_val (a : Ac) : acR a.val = some (a.dat, []) := by simp [acR, Ac.val]
theorem acR_inv {v : Value} {z : DataW Unit × List MemPlace} (h : acR v = some z) : ∃ a : Ac, v = a.val ∧ z = (a.dat, []) := by
  unfold acR at h
  split at h
  · rename_i cs
    split at h
    · rename_i s a b c he
      injection h with h
      refine ⟨⟨s.data.toList, a, b, c⟩, ?_, h.symm⟩
      obtain ⟨l⟩ := cs
      simp only at he
      subst he
      rfl
    · cases h
  · cases h
theorem acR_at {v : Value} {a : Ac} {ps : List MemPlace} (h : acR v = some (a.dat, ps)) : v = a.val := by
  obtain ⟨b, rfl, hb⟩ := acR_inv h
  injection hb with h1 h2
  rw [Ac.dat_inj h1]

def ent (a : Ac) : Lit × DataW Unit := (a.key, a.dat)
def dOf (S : List Ac) : DataW Unit := .map (S.map ent)
/-- in the order of their names -/
def Rise (S : List Ac) : Prop := S.Pairwise fun a b => a.key.before b.key = true
/-- the account of a name -/
def getA (S : List Ac) (k : List UInt8) : Option Ac := S.find? fun a => a.name == k
def insA (a : Ac) : List Ac → List Ac
  | [] => [a]
  | b :: r => if a.key.before b.key then a :: b :: r else b :: insA a r
/-- an account is put -/
def putA (a : Ac) (S : List Ac) : List Ac := insA a (S.filter fun b => !b.key.sameKey a.key)

theorem same_str (x y : List UInt8) : (Lit.string x).sameKey (.string y) = (x == y) := rfl
theorem has_dOf (S : List Ac) (k : List UInt8) : Maps.has (dOf S) (.string k) = (getA S k).isSome := by
  unfold dOf getA
  rw [has_eq, List.any_map]
  induction S with
  | nil => rfl
  | cons a S ih =>
    rw [List.any_cons, ih, List.find?_cons]
    show ((Lit.string a.name).sameKey (.string k) || _) = _
    rw [same_str]
    cases a.name == k <;> rfl
theorem at_dOf (S : List Ac) (k : List UInt8) (z : DataW Unit) : (dOf S).atKey (.string k) z = match getA S k with | some a => a.dat | none => z := by
  unfold dOf getA DataW.atKey
  simp only [List.find?_map]
  have : ((fun p : Lit × DataW Unit => p.1.sameKey (Lit.string k)) ∘ ent) = fun a : Ac => a.name == k := rfl
  rw [this]
  cases S.find? fun a => a.name == k <;> rfl
theorem size_dOf (S : List Ac) : Maps.size (dOf S) = S.length := by
  unfold dOf
  rw [size_eq, List.length_map]
theorem ins_ent (a : Ac) (S : List Ac) : DataW.insert (ent a) (S.map ent) = (insA a S).map ent := by
  induction S with
  | nil => rfl
  | cons b r ih =>
    rw [List.map_cons, DataW.insert, insA]
    show (if a.key.before b.key = true then _ else _) = _
    split
    · rfl
    · rw [ih]; rfl
theorem put_dOf (S : List Ac) (a : Ac) : (dOf S).put a.key a.dat = dOf (putA a S) := by
  unfold dOf DataW.put putA
  simp only
  rw [← ins_ent]
  congr 2
  rw [List.filter_map]
  rfl

theorem getA_some {S : List Ac} {k : List UInt8} {a : Ac} (h : getA S k = some a) : a ∈ S ∧ a.name = k := by
  unfold getA at h
  exact ⟨List.mem_of_find?_eq_some h, by simpa using List.find?_some h⟩
theorem getA_none {S : List Ac} {k : List UInt8} (h : getA S k = none) : ∀ a ∈ S, a.name ≠ k := by
  unfold getA at h
  intro a ha
  simpa using List.find?_eq_none.1 h a ha
theorem isKey_str (x : List UInt8) : WideAt.IsKeyLit (.string x) := by
  unfold WideAt.IsKeyLit
  trivial
theorem isMap_dOf (S : List Ac) : IsMap (dOf S) := ⟨_, rfl⟩
theorem getA_put_same (S : List Ac) (a : Ac) : getA (putA a S) a.name = some a := by
  have h1 := has_dOf (putA a S) a.name
  rw [← put_dOf] at h1
  rw [show a.key = .string a.name from rfl, has_put_same (isMap_dOf S) (isKey_str _)] at h1
  have h2 := at_dOf (putA a S) a.name .nil
  rw [← put_dOf, show a.key = .string a.name from rfl, atKey_put_same (isMap_dOf S) (isKey_str _)] at h2
  cases hg : getA (putA a S) a.name with
  | none => rw [hg] at h1; cases h1
  | some b => rw [hg] at h2; rw [Ac.dat_inj h2]
theorem getA_put_other (S : List Ac) (a : Ac) (k : List UInt8) (h : k ≠ a.name) : getA (putA a S) k = getA S k := by
  have hne : Lit.string k ≠ a.key := by unfold Ac.key; intro e; injection e with e; exact h e
  have h1 := has_dOf (putA a S) k
  rw [← put_dOf, has_put_other hne, has_dOf] at h1
  have h2 := at_dOf (putA a S) k .nil
  rw [← put_dOf, atKey_put_other hne, at_dOf] at h2
  cases hg : getA (putA a S) k <;> cases hg2 : getA S k <;> rw [hg, hg2] at h1 h2
  · cases h1
  · cases h1
  · rw [Ac.dat_inj h2]
theorem mem_insA (a b : Ac) (S : List Ac) : b ∈ insA a S ↔ b = a ∨ b ∈ S := by
  induction S with
  | nil => simp [insA]
  | cons c r ih =>
    unfold insA
    split
    · simp
    · simp [ih]
      constructor
      · rintro (h | h | h)
        · exact .inr (.inl h)
        · exact .inl h
        · exact .inr (.inr h)
      · rintro (h | h | h)
        · exact .inr (.inl h)
        · exact .inl h
        · exact .inr (.inr h)
theorem rise_ins (a : Ac) (S : List Ac) (h : Rise S) (hne : ∀ b ∈ S, b.name ≠ a.name) : Rise (insA a S) := by
  induction S with
  | nil => simp [insA, Rise]
  | cons c r ih =>
    obtain ⟨h1, h2⟩ := List.pairwise_cons.1 h
    unfold insA
    split
    · rename_i hb
      refine List.pairwise_cons.2 ⟨fun q hq => ?_, h⟩
      rcases List.mem_cons.1 hq with rfl | hq
      · exact hb
      · exact WideShapes.before_trans hb (h1 q hq)
    · rename_i hb
      have hca : c.key.before a.key = true := by
        rcases WideAt.bytes_total c.name a.name (hne c List.mem_cons_self) with h' | h'
        · exact h'
        · exact absurd h' hb
      refine List.pairwise_cons.2 ⟨fun q hq => ?_, ih h2 fun b hb => hne b (List.mem_cons_of_mem _ hb)⟩
      rcases (mem_insA a q r).1 hq with rfl | hq
      · exact hca
      · exact h1 q hq
theorem rise_put (a : Ac) (S : List Ac) (h : Rise S) : Rise (putA a S) := by
  refine rise_ins a _ (List.Pairwise.sublist List.filter_sublist h) fun b hb => ?_
  have h1 := (List.mem_filter.1 hb).2
  rw [show b.key.sameKey a.key = (b.name == a.name) from rfl] at h1
  simpa using h1
theorem tidy_dOf {S : List Ac} (h : Rise S) : Tidy (dOf S) := by
  refine ⟨_, rfl, List.pairwise_map.2 (h.imp fun {a b} hab e => ?_)⟩
  have e' : a.key = b.key := e
  rw [e', WideShapes.before_irrefl] at hab
  cases hab
theorem length_put (a : Ac) (S : List Ac) (h : Rise S) : (putA a S).length = if (getA S a.name).isSome then S.length else S.length + 1 := by
  have h1 := size_put (k := a.key) (tidy_dOf h) a.dat
  rw [put_dOf, size_dOf, size_dOf, show a.key = .string a.name from rfl, has_dOf] at h1
  exact h1
theorem before_lt : ∀ (x y : List UInt8), bytesBefore x y = true → x < y
  | [], [], h => by simp [bytesBefore] at h
  | [], _ :: _, _ => List.nil_lt_cons _ _
  | _ :: _, [], h => by simp [bytesBefore] at h
  | a :: r, b :: s, h => by
    simp only [bytesBefore, Bool.or_eq_true, decide_eq_true_eq, Bool.and_eq_true, beq_iff_eq] at h
    rcases h with h | ⟨rfl, h⟩
    · exact List.cons_lt_cons_iff.2 (.inl h)
    · exact List.cons_lt_cons_iff.2 (.inr ⟨rfl, before_lt r s h⟩)
theorem keys_dOf (S : List Ac) : strKeys (dOf S) = S.map Ac.name := by
  unfold dOf strKeys
  simp only [List.map_map]
  rfl
/-- the names, sorted -/
theorem sorted_names {S : List Ac} (h : Rise S) {ss : List (List UInt8)} (hp : ss.Perm (strKeys (dOf S))) : ss.mergeSort leB = S.map Ac.name := by
  rw [mergeSort_of_perm hp, keys_dOf]
  refine List.mergeSort_of_pairwise ?_
  refine List.pairwise_map.2 (h.imp fun {a b} hab => ?_)
  have := before_lt a.name b.name hab
  simp only [leB, decide_eq_true_eq]
  exact List.le_of_lt this
end Go.My
