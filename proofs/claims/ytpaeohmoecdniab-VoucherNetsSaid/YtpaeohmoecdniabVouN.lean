/- What accounts grow by together, in lists. -/
import Derived.Test.YtpaeohmoecdniabVouRow
import Derived.Test.YtpaeohmoecdniabChartJ
import Derived.Maps.OwnRows
namespace Go.Proofs.Ytpaeohmoecdniab
open Go.RowKit Go.My Go.Maps
set_option linter.unusedSimpArgs false
set_option linter.unusedVariables false

/-- a name alone -/
def nm0 (k : List UInt8) : Ac := ⟨k, 0, 0, 0⟩
/-- the names of legs, each once, in order -/
def nmA (F : List Lg) : List Ac := F.foldl (fun S g => putA (nm0 g.nm) S) []
theorem nmA_snoc (F : List Lg) (g : Lg) : nmA (F ++ [g]) = putA (nm0 g.nm) (nmA F) := by
  unfold nmA
  rw [List.foldl_append]
  rfl
theorem rise_foldl : ∀ (F : List Lg) (S : List Ac), Rise S → Rise (F.foldl (fun S g => putA (nm0 g.nm) S) S)
  | [], S, h => h
  | g :: r, S, h => rise_foldl r _ (rise_put _ S h)
theorem rise_nmA (F : List Lg) : Rise (nmA F) := rise_foldl F [] List.Pairwise.nil
theorem mem_put_iff (a b : Ac) (S : List Ac) : b ∈ putA a S ↔ b = a ∨ (b ∈ S ∧ b.name ≠ a.name) := by
  unfold putA
  rw [mem_insA, List.mem_filter]
  show _ ∨ (_ ∧ (!(b.name == a.name)) = true) ↔ _
  simp
theorem mem_foldl : ∀ (F : List Lg) (S : List Ac), (∀ a ∈ S, a = nm0 a.name) → ∀ b, b ∈ F.foldl (fun S g => putA (nm0 g.nm) S) S ↔ b ∈ S ∨ ∃ g ∈ F, b = nm0 g.nm
  | [], S, _, b => by simp
  | g :: r, S, h, b => by
    have h' : ∀ a ∈ putA (nm0 g.nm) S, a = nm0 a.name := fun a ha => by
      rcases (mem_put_iff _ _ _).1 ha with rfl | ⟨ha, _⟩
      · rfl
      · exact h a ha
    show b ∈ r.foldl _ (putA (nm0 g.nm) S) ↔ _
    rw [mem_foldl r _ h' b, mem_put_iff]
    constructor
    · rintro ((rfl | ⟨hb, _⟩) | ⟨g', hg', rfl⟩)
      · exact .inr ⟨g, List.mem_cons_self, rfl⟩
      · exact .inl hb
      · exact .inr ⟨g', List.mem_cons_of_mem _ hg', rfl⟩
    · rintro (hb | ⟨g', hg', rfl⟩)
      · by_cases hn : b.name = g.nm
        · exact .inl (.inl (by rw [h b hb, hn]))
        · exact .inl (.inr ⟨hb, hn⟩)
      · rcases List.mem_cons.1 hg' with rfl | hg'
        · exact .inl (.inl rfl)
        · exact .inr ⟨g', hg', rfl⟩
theorem mem_nmA (F : List Lg) (b : Ac) : b ∈ nmA F ↔ ∃ g ∈ F, b = nm0 g.nm := by
  unfold nmA
  rw [mem_foldl F [] (by simp)]
  simp
theorem nmA_nm0 {F : List Lg} {a : Ac} (h : a ∈ nmA F) : a = nm0 a.name := by
  obtain ⟨g, _, rfl⟩ := (mem_nmA F a).1 h
  rfl
theorem rise_mem_ext {S T : List Ac} (hS : Rise S) (hT : Rise T) (h0S : ∀ a ∈ S, a = nm0 a.name) (h0T : ∀ a ∈ T, a = nm0 a.name) (h : ∀ k, nm0 k ∈ S ↔ nm0 k ∈ T) : S = T := by
  refine rise_ext S T hS hT fun k => ?_
  have key : ∀ {U : List Ac}, Rise U → (∀ a ∈ U, a = nm0 a.name) → getA U k = if nm0 k ∈ U then some (nm0 k) else none := fun {U} hU h0 => by
    by_cases hk : nm0 k ∈ U
    · rw [if_pos hk]
      exact getA_mem hU hk
    · rw [if_neg hk]
      cases hq : getA U k with
      | none => rfl
      | some a =>
        obtain ⟨ha, hn⟩ := getA_some hq
        rw [h0 a ha, hn] at ha
        exact absurd ha hk
  rw [key hS h0S, key hT h0T]
  simp only [h k]

/-- what legs name an account with -/
def sumsOf (F : List Lg) (k : List UInt8) : List Int := (F.filter fun g => g.nm == k).map Lg.sum
theorem sumsOf_snoc (F : List Lg) (g : Lg) (k : List UInt8) : sumsOf (F ++ [g]) k = sumsOf F k ++ if g.nm = k then [g.sum] else [] := by
  unfold sumsOf
  rw [List.filter_append, List.map_append]
  congr 1
  by_cases h : g.nm = k
  · rw [if_pos h, List.filter_cons, if_pos (by simpa using h)]; rfl
  · rw [if_neg h, List.filter_cons, if_neg (by simpa using h)]; rfl
theorem sumsOf_length (F : List Lg) (k : List UInt8) : (sumsOf F k).length ≤ F.length := by
  unfold sumsOf
  rw [List.length_map]
  exact List.length_filter_le _ _
theorem sumsOf_in {F : List Lg} (h : ∀ g ∈ F, g.ok) (k : List UInt8) : ∀ x ∈ sumsOf F k, In64 x := fun x hx => by
  unfold sumsOf at hx
  obtain ⟨g, hg, rfl⟩ := List.mem_map.1 hx
  exact (h g (List.mem_filter.1 hg).1).2
theorem sumsOf_none {F : List Lg} {k : List UInt8} (h : getA (nmA F) k = none) : sumsOf F k = [] := by
  unfold sumsOf
  rw [List.filter_eq_nil_iff.2, List.map_nil]
  intro g hg hk
  exact getA_none h (nm0 g.nm) ((mem_nmA F _).2 ⟨g, hg, rfl⟩) (by simpa [nm0] using hk)

def gEnt (F : List Lg) (a : Ac) : Lit × DataW Unit := (a.key, .slice (ChangeShapes.lits .i64 (sumsOf F a.name)) [])
/-- the groups, as a map's datum -/
def gOf (F : List Lg) : DataW Unit := .map ((nmA F).map (gEnt F))
theorem ins_gEnt (F : List Lg) (a : Ac) (S : List Ac) : DataW.insert (gEnt F a) (S.map (gEnt F)) = (insA a S).map (gEnt F) := by
  induction S with
  | nil => rfl
  | cons b r ih =>
    rw [List.map_cons, DataW.insert, insA]
    show (if a.key.before b.key = true then _ else _) = _
    split
    · rfl
    · rw [ih]; rfl
theorem gOf_put (F : List Lg) (g : Lg) : (gOf F).put (.string g.nm) (.slice (ChangeShapes.lits .i64 (sumsOf F g.nm ++ [g.sum])) []) = gOf (F ++ [g]) := by
  have e1 : (Lit.string g.nm, DataW.slice (H := Unit) (ChangeShapes.lits .i64 (sumsOf F g.nm ++ [g.sum])) []) = gEnt (F ++ [g]) (nm0 g.nm) := by
    unfold gEnt
    rw [show (nm0 g.nm).name = g.nm from rfl, sumsOf_snoc, if_pos rfl]
    rfl
  unfold gOf DataW.put
  simp only
  rw [e1, nmA_snoc]
  unfold putA
  rw [← ins_gEnt]
  congr 2
  rw [List.filter_map]
  refine List.map_congr_left fun a ha => ?_
  have hne : (!(a.name == g.nm)) = true := (List.mem_filter.1 ha).2
  unfold gEnt
  rw [sumsOf_snoc, if_neg (by intro h; simp [h] at hne), List.append_nil]
theorem gOf_at (F : List Lg) (k : List UInt8) : (gOf F).atKey (.string k) .nil = match getA (nmA F) k with | some a => .slice (ChangeShapes.lits .i64 (sumsOf F a.name)) [] | none => .nil := by
  unfold gOf getA DataW.atKey
  simp only [List.find?_map]
  have : ((fun p : Lit × DataW Unit => p.1.sameKey (Lit.string k)) ∘ gEnt F) = fun a : Ac => a.name == k := rfl
  rw [this]
  cases (nmA F).find? fun a => a.name == k <;> rfl
theorem strKeys_gOf (F : List Lg) : strKeys (gOf F) = strKeys (dOf (nmA F)) := by
  rw [keys_dOf]
  unfold gOf strKeys
  simp only [List.map_map]
  rfl
theorem size_gOf (F : List Lg) : Maps.size (gOf F) = (nmA F).length := by
  unfold gOf
  rw [size_eq, List.length_map]

/-- the sums that a slice in the map owns -/
theorem group_of {w : World} {base : Nat} {e : TypeId} {F : List Lg} {k : List UInt8} {v : Value} {zs : List Int} (ho : w.ownsInts base e .i64 v zs) (h : (gOf F).atKey (.string k) .nil = rowDatum .i64 v zs) : zs = sumsOf F k := by
  rw [gOf_at] at h
  have hd := ho.datum (H := Unit)
  cases hg : getA (nmA F) k with
  | none =>
    rw [hg] at h
    simp only at h
    rcases hd with ⟨_, h0⟩ | hd
    · rw [h0, sumsOf_none hg]
    · rw [hd] at h
      cases h
  | some a =>
    rw [hg] at h
    simp only at h
    rw [(getA_some hg).2] at h
    rcases hd with ⟨hd, _⟩ | hd
    · rw [hd] at h
      cases h
    · rw [hd] at h
      injection h with h _
      unfold ChangeShapes.lits at h
      have h2 := congrArg (List.map fun d : DataW Unit => match d with | .lit (.int _ z) => z | _ => 0) h
      simpa [List.map_map, Function.comp_def] using h2.symm

/-- an account's leg, unless it is 0 -/
def netLg (F : List Lg) (a : Ac) : Option Lg := if total (sumsOf F a.name) = 0 then none else some ⟨⟨a.name.toArray⟩, total (sumsOf F a.name)⟩
def netsOf (F : List Lg) (S : List Ac) : List Lg := S.filterMap (netLg F)
def netE (F : List Lg) : Int := if (nmA F).all (fun a => decide (In64 (total (sumsOf F a.name)))) then 0 else 2
def netL (F : List Lg) : List Lg := if netE F = 0 then netsOf F (nmA F) else []
theorem netE_ok {F : List Lg} (h : ∀ a ∈ nmA F, In64 (total (sumsOf F a.name))) : netE F = 0 := by
  unfold netE
  rw [if_pos (List.all_eq_true.2 fun a ha => decide_eq_true (h a ha))]
theorem netE_bad {F : List Lg} {a : Ac} (ha : a ∈ nmA F) (h : ¬ In64 (total (sumsOf F a.name))) : netE F = 2 ∧ netL F = [] := by
  have e : netE F = 2 := by
    unfold netE
    rw [if_neg]
    intro hall
    have := List.all_eq_true.1 hall a ha
    exact h (of_decide_eq_true this)
  exact ⟨e, by unfold netL; rw [e, if_neg (by decide)]⟩
theorem netL_ok {F : List Lg} (h : ∀ a ∈ nmA F, In64 (total (sumsOf F a.name))) : netL F = netsOf F (nmA F) := by
  unfold netL
  rw [netE_ok h, if_pos rfl]
theorem netsOf_snoc (F : List Lg) {S : List Ac} {k : Nat} (hk : k < S.length) : netsOf F (S.take (k + 1)) = netsOf F (S.take k) ++ if total (sumsOf F S[k].name) = 0 then [] else [⟨⟨S[k].name.toArray⟩, total (sumsOf F S[k].name)⟩] := by
  unfold netsOf
  rw [List.take_succ_eq_append_getElem hk, List.filterMap_append]
  congr 1
  unfold netLg
  by_cases h : total (sumsOf F S[k].name) = 0
  · rw [if_pos h]; simp [h]
  · rw [if_neg h]; simp [h]

/-- the opposite of each leg -/
def negL (L : List Lg) : List Lg := L.map fun g => ⟨g.acct, -g.sum⟩
def mirrE (L : List Lg) : Int := if L.all (fun g => decide (g.sum ≠ -9223372036854775808)) then 0 else 2
def mirrL (L : List Lg) : List Lg := if mirrE L = 0 then negL L else []

/-! ### a name is laid into a list in order -/

theorem put_there {S : List Ac} (hS : Rise S) {k : Nat} (hk : k < S.length) {x : List UInt8} (h : S[k] = nm0 x) : putA (nm0 x) S = S := by
  rw [put_set S k hk _ hS (by rw [h]), ← h, List.set_getElem_self]
theorem bytes_lt_of {x y : List UInt8} (h : bytesBefore x y = false) (hne : y ≠ x) : bytesBefore y x = true := by
  rcases WideAt.bytes_total x y (fun e => hne e.symm) with g | g
  · rw [h] at g; cases g
  · exact g
/-- a new name at place j -/
theorem put_new {S : List Ac} (hS : Rise S) {x : List UInt8} {j : Nat} (hj : j ≤ S.length) (hge : ∀ i (h : i < S.length), j ≤ i → bytesBefore x S[i].name = true) (hlt : ∀ (h : 0 < j) (h2 : j - 1 < S.length), bytesBefore x S[j - 1].name = false ∧ S[j - 1].name ≠ x) :
    putA (nm0 x) S = S.take j ++ nm0 x :: S.drop j := by
  have hn : getA S x = none := by
    cases hq : getA S x with
    | none => rfl
    | some a =>
      exfalso
      obtain ⟨ha, hna⟩ := getA_some hq
      obtain ⟨i, hi, rfl⟩ := List.getElem_of_mem ha
      rcases Nat.lt_or_ge i j with hij | hij
      · obtain ⟨h1, h2⟩ := hlt (by omega) (by omega)
        have h3 := bytes_lt_of h1 h2
        rcases Nat.lt_or_ge i (j - 1) with h4 | h4
        · have h5 : bytesBefore S[i].name S[j - 1].name = true := List.pairwise_iff_getElem.1 hS i (j - 1) hi (by omega) h4
          have h6 := WideShapes.bytes_trans _ _ _ h5 h3
          rw [hna, WideAt.bytes_irrefl] at h6
          cases h6
        · have : i = j - 1 := by omega
          subst this
          exact h2 hna
      · have h3 := hge i hi hij
        rw [hna, WideAt.bytes_irrefl] at h3
        cases h3
  rw [put_ins (a := nm0 x) hn]
  exact ins_at S (nm0 x) j hj hS hge (fun h h2 => (hlt h h2).1)
end Go.Proofs.Ytpaeohmoecdniab
