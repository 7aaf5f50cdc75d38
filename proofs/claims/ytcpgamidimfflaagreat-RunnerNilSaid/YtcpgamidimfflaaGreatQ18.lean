/- The runner, in lists (of no program but the rows' names). The runner's graphs, in lists. A row of texts searched: slices.IndexFunc and ContainsFunc with a closure, Index and Contains. slices.Contains of texts; an order marked with its accounts; clash.Clash. Two marked orders clash: the walk. clash.Clash. Lists of orders in memory; replies in rows. clash.positions: where each order of a list stands. clash.Right: no Id twice. Legs as cells. Copies of orders: slices.Clone of legs, copies.Order, copies.All. slices.Clone of Insts. -/
import Derived.Test.YtcpgamidimfflaaGreatQ06
import Derived.Test.YtcpgamidimfflaaGreatQ13
import Derived.Test.YtcpgamidimfflaaGreatQ16
import Derived.Test.YtcpgamidimfflaaGreatQ17
import Derived.Test.YtcpgamidimfflaaGreatQ11
import Derived.Sort.Walk0
import Derived.Test.YtcpgamidimfflaaGreatQ10
namespace Go.Proofs.YtcpgamidimfflaaGreat
open Go.RowKit Go.My Go.My.Kn
set_option linter.unusedSimpArgs false
set_option linter.unusedVariables false
structure Dd where
  i : In2
  id : Idk
  r : Rp
  ag : Bool
structure Ru where
  S : List (In2 × En)
  wt : In2 → Bool
  did : List Od
  tr : List Rp
  b : Bk
def Ru.ks (s : Ru) : List In2 := s.S.map Prod.fst
def getS (S : List (In2 × En)) (i : In2) : Option En := (S.find? fun x => decide (x.1 = i)).map Prod.snd
def Ru.get (s : Ru) (i : In2) : Option En := getS s.S i
def Ru.dp (s : Ru) (i : In2) : List In2 := ((s.get i).map En.deps).getD []
def ru0 : Ru := ⟨[], fun _ => false, [], [], bk0⟩
theorem getS_some {S : List (In2 × En)} {i : In2} {e : En} (h : getS S i = some e) : (i, e) ∈ S := by
  unfold getS at h
  rw [Option.map_eq_some_iff] at h
  obtain ⟨x, h1, rfl⟩ := h
  have h2 := List.find?_some h1
  have h3 := List.mem_of_find?_eq_some h1
  simp only [decide_eq_true_eq] at h2
  subst h2
  exact h3
theorem getS_none {S : List (In2 × En)} {i : In2} : getS S i = none ↔ i ∉ S.map Prod.fst := by
  unfold getS
  rw [Option.map_eq_none_iff, List.find?_eq_none]
  constructor
  · intro h hm
    obtain ⟨x, hx, rfl⟩ := List.mem_map.1 hm
    exact h x hx (by simp)
  · intro h x hx he
    simp only [decide_eq_true_eq] at he
    exact h (List.mem_map.2 ⟨x, hx, he⟩)
theorem getS_of {S : List (In2 × En)} (hn : (S.map Prod.fst).Nodup) {i : In2} {e : En} (h : (i, e) ∈ S) : getS S i = some e := by
  cases hg : getS S i with
  | none => exact absurd (List.mem_map.2 ⟨_, h, rfl⟩) (getS_none.1 hg)
  | some e' =>
    have h' := getS_some hg
    obtain ⟨a, ha, ea⟩ := List.getElem_of_mem h
    obtain ⟨b, hb, eb⟩ := List.getElem_of_mem h'
    have : a = b := (List.getElem_inj (h₀ := by simpa using ha) (h₁ := by simpa using hb) hn).1 (by rw [List.getElem_map, List.getElem_map, ea, eb])
    subst this
    rw [ea] at eb
    injection eb with _ eb
    rw [eb]
theorem Ru.get_mem {s : Ru} {i : In2} : (s.get i).isSome = true ↔ i ∈ s.ks := by
  cases h : s.get i with
  | none => exact ⟨fun h => (by cases h), fun hm => absurd hm (getS_none.1 h)⟩
  | some e => exact ⟨fun _ => List.mem_map.2 ⟨_, getS_some h, rfl⟩, fun _ => rfl⟩
def insS (S : List (In2 × En)) (i : In2) (e : En) : List (In2 × En) := S.filter (fun x => aheadI x.1 i) ++ (i, e) :: S.filter fun x => aheadI i x.1
theorem insS_mem {S : List (In2 × En)} {i : In2} {e : En} (hi : i ∉ S.map Prod.fst) (x : In2 × En) : x ∈ insS S i e ↔ x = (i, e) ∨ x ∈ S := by
  unfold insS
  rw [List.mem_append, List.mem_cons, List.mem_filter, List.mem_filter]
  constructor
  · rintro (h | h | h)
    · exact .inr h.1
    · exact .inl h
    · exact .inr h.1
  · rintro (h | h)
    · exact .inr (.inl h)
    · have hne : x.1 ≠ i := fun e => hi (List.mem_map.2 ⟨x, h, e⟩)
      rcases aheadI_total hne with a | a
      · exact .inl ⟨h, a⟩
      · exact .inr (.inr ⟨h, a⟩)
theorem insS_rise {S : List (In2 × En)} {i : In2} {e : En} (hr : RiseI (S.map Prod.fst)) : RiseI ((insS S i e).map Prod.fst) := by
  unfold RiseI insS at *
  rw [List.pairwise_map] at hr ⊢
  rw [List.pairwise_append, List.pairwise_cons]
  refine ⟨hr.filter _, ⟨fun x hx => (List.mem_filter.1 hx).2, hr.filter _⟩, fun a ha b hb => ?_⟩
  have h1 := (List.mem_filter.1 ha).2
  rcases List.mem_cons.1 hb with rfl | hb
  · exact h1
  · exact aheadI_trans h1 (List.mem_filter.1 hb).2
theorem insS_ks {S : List (In2 × En)} {i : In2} {e : En} (hi : i ∉ S.map Prod.fst) (j : In2) : j ∈ (insS S i e).map Prod.fst ↔ j = i ∨ j ∈ S.map Prod.fst := by
  simp only [List.mem_map]
  constructor
  · rintro ⟨x, hx, rfl⟩
    rcases (insS_mem hi x).1 hx with rfl | h
    · exact .inl rfl
    · exact .inr ⟨x, h, rfl⟩
  · rintro (rfl | ⟨x, hx, rfl⟩)
    · exact ⟨(j, e), (insS_mem hi _).2 (.inl rfl), rfl⟩
    · exact ⟨x, (insS_mem hi _).2 (.inr hx), rfl⟩
theorem getS_ins {S : List (In2 × En)} {i : In2} {e : En} (hr : RiseI (S.map Prod.fst)) (hi : i ∉ S.map Prod.fst) (j : In2) : getS (insS S i e) j = if j = i then some e else getS S j := by
  have hn := (insS_rise (i := i) (e := e) hr).nodup
  by_cases h : j = i
  · subst h
    rw [if_pos rfl]
    exact getS_of hn ((insS_mem hi _).2 (.inl rfl))
  · rw [if_neg h]
    cases hg : getS S j with
    | none =>
      rw [getS_none] at hg ⊢
      rw [insS_ks hi]
      exact fun h2 => h2.elim h hg
    | some x => exact getS_of hn ((insS_mem hi _).2 (.inr (getS_some hg)))
def lookT (did : List Od) (tr : List Rp) (k : Idk) : Option Rp := (posF (idsO did) k).bind fun n => tr[n]?
noncomputable def Ru.comE (s : Ru) (i : In2) (e : En) : Int := if rightE i e = true then (match s.get i with | some x => if sameE x e = true then 0 else 7 | none => 0) else 1
noncomputable def Ru.com (s : Ru) (i : In2) (e : En) : Ru := if rightE i e = true then (match s.get i with | some _ => s | none => { s with S := insS s.S i e, wt := fun j => decide (j = i) || s.wt j }) else s
def Ru.ex1 (s : Ru) (i : In2) : Ru := { s with wt := fun j => !decide (j = i) && s.wt j }
noncomputable def Ru.exO (s : Ru) (o : Od) : Ru := match lookT s.did s.tr o.id with | some _ => s | none => { s with did := s.did ++ [o], tr := s.tr ++ [doR s.b o], b := doB s.b o }
noncomputable def Ru.exD (s : Ru) (i : In2) (o : Od) : Dd := match lookT s.did s.tr o.id with | some r => ⟨i, o.id, r, true⟩ | none => ⟨i, o.id, doR s.b o, false⟩
noncomputable def Ru.exec (s : Ru) (i : In2) : Ru := match s.get i with | none => s.ex1 i | some e => if e.none = true then s.ex1 i else (s.ex1 i).exO e.o
noncomputable def Ru.execD (s : Ru) (i : In2) : List Dd := match s.get i with | none => [] | some e => if e.none = true then [] else [s.exD i e.o]
noncomputable def Ru.execs : Ru → List In2 → Ru
  | s, [] => s
  | s, i :: l => (s.exec i).execs l
noncomputable def Ru.execsD : Ru → List In2 → List Dd
  | s, [] => []
  | s, i :: l => s.execD i ++ (s.exec i).execsD l
theorem execs_append (l m : List In2) : ∀ s : Ru, s.execs (l ++ m) = (s.execs l).execs m ∧ s.execsD (l ++ m) = s.execsD l ++ (s.execs l).execsD m := by
  induction l with
  | nil => intro s; exact ⟨rfl, rfl⟩
  | cons a l ih =>
    intro s
    refine ⟨(ih (s.exec a)).1, ?_⟩
    show s.execD a ++ (s.exec a).execsD (l ++ m) = (s.execD a ++ (s.exec a).execsD l) ++ _
    rw [(ih (s.exec a)).2, List.append_assoc]
    rfl
theorem execs_snoc (s : Ru) (l : List In2) (i : In2) : s.execs (l ++ [i]) = (s.execs l).exec i ∧ s.execsD (l ++ [i]) = s.execsD l ++ (s.execs l).execD i := by
  obtain ⟨h1, h2⟩ := execs_append l [i] s
  refine ⟨h1, h2.trans ?_⟩
  show _ ++ ((s.execs l).execD i ++ []) = _
  rw [List.append_nil]
theorem exO_S (s : Ru) (o : Od) : (s.exO o).S = s.S ∧ (s.exO o).wt = s.wt := by
  unfold Ru.exO
  cases lookT s.did s.tr o.id <;> exact ⟨rfl, rfl⟩
theorem exec_S (s : Ru) (i : In2) : (s.exec i).S = s.S ∧ (s.exec i).wt = fun j => !decide (j = i) && s.wt j := by
  unfold Ru.exec
  cases s.get i with
  | none => exact ⟨rfl, rfl⟩
  | some e =>
    show (if e.none = true then s.ex1 i else (s.ex1 i).exO e.o).S = s.S ∧ (if e.none = true then s.ex1 i else (s.ex1 i).exO e.o).wt = _
    by_cases h : e.none = true
    · rw [if_pos h]; exact ⟨rfl, rfl⟩
    · rw [if_neg h]; exact exO_S _ _
theorem execs_S : ∀ (l : List In2) (s : Ru), (s.execs l).S = s.S ∧ ∀ j, (s.execs l).wt j = (!decide (j ∈ l) && s.wt j)
  | [], s => ⟨rfl, fun j => by simp [Ru.execs]⟩
  | a :: l, s => by
    obtain ⟨h1, h2⟩ := execs_S l (s.exec a)
    obtain ⟨h3, h4⟩ := exec_S s a
    refine ⟨h1.trans h3, fun j => ?_⟩
    show ((s.exec a).execs l).wt j = _
    rw [h2 j, h4]
    by_cases e : j = a <;> simp [e]
theorem exec_get (s : Ru) (i : In2) : (s.exec i).get = s.get := by unfold Ru.get; rw [(exec_S s i).1]
theorem execs_get (s : Ru) (l : List In2) : (s.execs l).get = s.get := by unfold Ru.get; rw [(execs_S l s).1]
theorem execs_ks (s : Ru) (l : List In2) : (s.execs l).ks = s.ks := by unfold Ru.ks; rw [(execs_S l s).1]
theorem execs_dp (s : Ru) (l : List In2) : (s.execs l).dp = s.dp := by unfold Ru.dp; rw [execs_get]
structure DiI (s : Ru) : Prop where
  rep : s.tr = foldR bk0 s.did
  bk : s.b = foldB bk0 s.did
  ids : Rt Od.id s.did
  dok : ∀ o ∈ s.did, o.ok ∧ rightO o = true
theorem DiI.len {s : Ru} (h : DiI s) : s.tr.length = s.did.length := by rw [h.rep, foldR_length]
theorem DiI.look {s : Ru} (h : DiI s) (k : Idk) : (lookT s.did s.tr k).isSome = decide (k ∈ idsO s.did) := by
  unfold lookT
  cases hp : posF (idsO s.did) k with
  | none => exact (decide_eq_false (posF_none.1 hp)).symm
  | some n =>
    have h1 : (posF (idsO s.did) k).isSome = true := by rw [hp]; rfl
    have hm : k ∈ idsO s.did := Classical.byContradiction fun hn => by rw [posF_none.2 hn] at h1; cases h1
    rw [decide_eq_true hm]
    obtain ⟨i, hi, he⟩ := List.getElem_of_mem hm
    have h2 : posF (idsO s.did) k = some i := posF_of h.ids (show (idsO s.did)[i]? = some k by rw [List.getElem?_eq_getElem hi, he])
    rw [hp] at h2
    injection h2 with h2
    subst h2
    have hi2 : n < s.tr.length := by rw [h.len, ← idsO_length]; exact hi
    show (s.tr[n]?).isSome = true
    rw [List.getElem?_eq_getElem hi2]
    rfl
theorem DiI.exO {s : Ru} (h : DiI s) {o : Od} (ho : o.ok) (hr : rightO o = true) : DiI (s.exO o) := by
  unfold Ru.exO
  cases hl : lookT s.did s.tr o.id with
  | some r => exact h
  | none =>
    have h1 := h.look o.id
    rw [hl] at h1
    have hn : o.id ∉ idsO s.did := of_decide_eq_false h1.symm
    refine ⟨?_, ?_, ?_, ?_⟩
    · show s.tr ++ [doR s.b o] = foldR bk0 (s.did ++ [o])
      rw [foldR_append, ← h.rep, ← h.bk]
      rfl
    · show doB s.b o = foldB bk0 (s.did ++ [o])
      rw [foldB_append, ← h.bk]
      rfl
    · show ((s.did ++ [o]).map Od.id).Nodup
      rw [List.map_append, List.nodup_append]
      refine ⟨h.ids, by simp, fun a ha b hb e => ?_⟩
      subst e
      rw [List.map_cons, List.map_nil, List.mem_singleton] at hb
      exact hn (hb ▸ ha)
    · intro x hx
      rcases List.mem_append.1 hx with hx | hx
      · exact h.dok x hx
      · rw [List.mem_singleton] at hx
        exact hx ▸ ⟨ho, hr⟩
structure RuI (s : Ru) : Prop where
  rise : RiseI s.ks
  right : ∀ x ∈ s.S, rightE x.1 x.2 = true
  ok : ∀ x ∈ s.S, x.2.o.ok
  sub : ∀ i, s.wt i = true → i ∈ s.ks
  clo : Clo s.ks s.dp fun i => s.wt i = false
  di : DiI s
theorem rui0 : RuI ru0 where
  rise := List.Pairwise.nil
  right := fun x h => by cases h
  ok := fun x h => by cases h
  sub := fun i h => by cases h
  clo := fun a h => by cases h
  di := ⟨rfl, rfl, List.nodup_nil, fun o h => by cases h⟩
theorem rightE_o {i : In2} {e : En} (h : rightE i e = true) (hn : e.none = false) : rightO e.o = true := by
  unfold rightE at h
  rw [Bool.and_eq_true, Bool.and_eq_true] at h
  have := h.2.1
  rw [hn] at this
  exact this
theorem rightE_i {i : In2} {e : En} (h : rightE i e = true) : rightI i = true := by
  unfold rightE at h
  rw [Bool.and_eq_true] at h
  exact h.1
theorem rightE_d {i : In2} {e : En} (h : rightE i e = true) : RiseI e.deps ∧ ∀ d ∈ e.deps, rightI d = true ∧ d ≠ i := by
  unfold rightE at h
  rw [Bool.and_eq_true, Bool.and_eq_true] at h
  exact dsB_rise h.2.2
theorem RuI.com {s : Ru} (h : RuI s) {i : In2} {e : En} (ho : e.o.ok) : RuI (s.com i e) := by
  unfold Ru.com
  by_cases hr : rightE i e = true
  · rw [if_pos hr]
    cases hg : s.get i with
    | some x => exact h
    | none =>
      have hi : i ∉ s.S.map Prod.fst := getS_none.1 hg
      have hwi : s.wt i = false := by
        cases hw : s.wt i with
        | false => rfl
        | true => exact absurd (h.sub i hw) hi
      refine ⟨insS_rise h.rise, fun x hx => ?_, fun x hx => ?_, fun j hj => ?_, fun a ha hwa d hd => ?_, ⟨h.di.rep, h.di.bk, h.di.ids, h.di.dok⟩⟩
      · rcases (insS_mem hi x).1 hx with rfl | hx
        · exact hr
        · exact h.right x hx
      · rcases (insS_mem hi x).1 hx with rfl | hx
        · exact ho
        · exact h.ok x hx
      · show j ∈ (insS s.S i e).map Prod.fst
        rw [insS_ks hi]
        have hj' : (decide (j = i) || s.wt j) = true := hj
        rw [Bool.or_eq_true, decide_eq_true_iff] at hj'
        exact hj'.imp id (h.sub j)
      · have hwa' : (decide (a = i) || s.wt a) = false := hwa
        rw [Bool.or_eq_false_iff, decide_eq_false_iff_not] at hwa'
        have hak : a ∈ s.ks := by
          have : a ∈ (insS s.S i e).map Prod.fst := ha
          rw [insS_ks hi] at this
          exact this.resolve_left hwa'.1
        have hd' : d ∈ ((getS (insS s.S i e) a).map En.deps).getD [] := hd
        rw [getS_ins h.rise hi, if_neg hwa'.1] at hd'
        obtain ⟨h1, h2⟩ := h.clo a hak hwa'.2 d hd'
        refine ⟨(insS_ks hi d).2 (.inr h1), ?_⟩
        show (decide (d = i) || s.wt d) = false
        rw [Bool.or_eq_false_iff, decide_eq_false_iff_not]
        exact ⟨fun e => hi (e ▸ h1), h2⟩
  · rw [if_neg hr]; exact h
theorem DiI.exec {s : Ru} (h : DiI s) (hr : ∀ x ∈ s.S, rightE x.1 x.2 = true) (ho : ∀ x ∈ s.S, x.2.o.ok) (i : In2) : DiI (s.exec i) := by
  unfold Ru.exec
  cases hg : s.get i with
  | none => exact ⟨h.rep, h.bk, h.ids, h.dok⟩
  | some e =>
    have hm := getS_some hg
    show DiI (if e.none = true then s.ex1 i else (s.ex1 i).exO e.o)
    by_cases hn : e.none = true
    · rw [if_pos hn]; exact ⟨h.rep, h.bk, h.ids, h.dok⟩
    · rw [if_neg hn]
      have h1 : DiI (s.ex1 i) := ⟨h.rep, h.bk, h.ids, h.dok⟩
      exact h1.exO (ho _ hm) (rightE_o (hr _ hm) (by cases hh : e.none with | false => rfl | true => exact absurd hh hn))
theorem DiI.execs : ∀ (l : List In2) {s : Ru}, DiI s → (∀ x ∈ s.S, rightE x.1 x.2 = true) → (∀ x ∈ s.S, x.2.o.ok) → DiI (s.execs l)
  | [], s, h, _, _ => h
  | a :: l, s, h, hr, ho => DiI.execs l (h.exec hr ho a) (by rw [(exec_S s a).1]; exact hr) (by rw [(exec_S s a).1]; exact ho)
def RunOf (s : Ru) (row : List In2) : Prop :=
  row.Nodup ∧ (∀ a, a ∈ row ↔ Opn s.ks s.dp a ∧ s.wt a = true) ∧ (row.length < 2 ∨ ∃ (G : List (List Int)) (L : List (List Nat)) (p : In2 → Bool), GrK s.ks s.dp G ∧ KnSeq s.ks.length (via' G) [] L ∧ (∀ a, p a = true ↔ Opn s.ks s.dp a ∧ s.wt a = true) ∧ row = runRow s.ks L p)
theorem RuI.run {s : Ru} (h : RuI s) {row : List In2} (hr : RunOf s row) : RuI (s.execs row) := by
  obtain ⟨hS, hw⟩ := execs_S row s
  refine ⟨by rw [execs_ks]; exact h.rise, by rw [hS]; exact h.right, by rw [hS]; exact h.ok, fun i hi => ?_, ?_, DiI.execs row h.di h.right h.ok⟩
  · rw [hw, Bool.and_eq_true] at hi
    rw [execs_ks]
    exact h.sub i hi.2
  · rw [execs_ks, execs_dp]
    intro a ha hwa d hd
    have hx : ∀ j, (s.execs row).wt j = false ↔ (j ∈ row ∨ s.wt j = false) := fun j => by
      rw [hw j]
      by_cases h1 : j ∈ row <;> simp [h1]
    rw [hx] at hwa
    rcases hwa with h1 | h1
    · have h2 := ((hr.2.1 a).1 h1).1.dep hd
      refine ⟨h2.1, (hx d).2 ?_⟩
      cases hwd : s.wt d with
      | false => exact .inr rfl
      | true => exact .inl ((hr.2.1 d).2 ⟨h2, hwd⟩)
    · obtain ⟨h2, h3⟩ := h.clo a ha h1 d hd
      exact ⟨h2, (hx d).2 (.inr h3)⟩
end Go.Proofs.YtcpgamidimfflaaGreat
namespace Go.Proofs.YtcpgamidimfflaaGreat
open Go.RowKit Go.My Go.My.Kn
set_option linter.unusedSimpArgs false
set_option linter.unusedVariables false
def toG (ks l : List In2) (u : Int) (d : In2) : Option Int := match posF l d with | some n => some (n : Int) | none => if d ∈ ks then none else some u
def rowG (ks l : List In2) (u : Int) (ds : List In2) : List Int := ds.filterMap (toG ks l u)
def graphL (s : Ru) (l : List In2) (u : Int) : List (List Int) := l.map fun i => rowG s.ks l u (s.dp i)
theorem graphL_len (s : Ru) (l : List In2) (u : Int) : (graphL s l u).length = l.length := by unfold graphL; rw [List.length_map]
theorem graphL_at (s : Ru) (l : List In2) (u : Int) {i : Nat} (h : i < l.length) : gat (graphL s l u) i = rowG s.ks l u (s.dp l[i]) := by
  rw [gat_at (by rw [graphL_len]; exact h)]
  unfold graphL
  rw [List.getElem_map]
theorem rowG_snoc (ks l : List In2) (u : Int) (ds : List In2) (d : In2) : rowG ks l u (ds ++ [d]) = rowG ks l u ds ++ (toG ks l u d).toList := by
  unfold rowG
  rw [List.filterMap_append]
  cases h : toG ks l u d <;> simp [h]
theorem rowG_le (ks l : List In2) (u : Int) (ds : List In2) : (rowG ks l u ds).length ≤ ds.length := List.length_filterMap_le _ _
theorem posF_pos {l : List In2} (hn : l.Nodup) {j : Nat} (hj : j < l.length) (d : In2) : posF l d = some j ↔ l[j] = d := by
  constructor
  · intro h
    have := (posF_some h).2
    rw [List.getElem?_eq_getElem hj] at this
    injection this
  · intro h
    exact posF_of hn (by rw [List.getElem?_eq_getElem hj, h])
theorem rowG_mem {ks l : List In2} {u : Int} (hn : l.Nodup) (ds : List In2) {j : Nat} (hj : j < l.length) (hu : u ≠ (j : Int)) : (j : Int) ∈ rowG ks l u ds ↔ l[j] ∈ ds := by
  unfold rowG
  rw [List.mem_filterMap]
  constructor
  · rintro ⟨d, hd, he⟩
    unfold toG at he
    cases hp : posF l d with
    | none =>
      rw [hp] at he
      simp only at he
      split at he
      · cases he
      · injection he with he
        exact absurd he hu
    | some n =>
      rw [hp] at he
      simp only [Option.some.injEq] at he
      have : n = j := by omega
      subst this
      rw [(posF_pos hn hj d).1 hp]
      exact hd
  · intro h
    refine ⟨l[j], h, ?_⟩
    unfold toG
    rw [(posF_pos hn hj _).2 rfl]
theorem rowG_out {ks l : List In2} (hn : l.Nodup) (hs : ∀ a ∈ l, a ∈ ks) (ds : List In2) : (l.length : Int) ∈ rowG ks l l.length ds ↔ ∃ d ∈ ds, d ∉ ks := by
  unfold rowG
  rw [List.mem_filterMap]
  constructor
  · rintro ⟨d, hd, he⟩
    refine ⟨d, hd, fun hk => ?_⟩
    unfold toG at he
    cases hp : posF l d with
    | none =>
      rw [hp] at he
      simp only [if_pos hk] at he
      cases he
    | some n =>
      rw [hp] at he
      simp only [Option.some.injEq] at he
      have := (posF_some hp).1
      omega
  · rintro ⟨d, hd, hk⟩
    refine ⟨d, hd, ?_⟩
    have hp : posF l d = none := posF_none.2 fun h => hk (hs d h)
    unfold toG
    rw [hp]
    simp only [if_neg hk]
theorem graphL_K (s : Ru) (hr : RiseI s.ks) : GrK s.ks s.dp (graphL s s.ks (-1)) where
  len := graphL_len _ _ _
  row := fun i hi j hj => by
    rw [graphL_at _ _ _ hi]
    exact rowG_mem hr.nodup _ hj (by omega)
def graphW (s : Ru) (W : List In2) : List (List Int) := graphL s W W.length ++ [[]]
theorem graphW_W (s : Ru) {W : List In2} (hn : W.Nodup) (hs : ∀ a ∈ W, a ∈ s.ks) : GrW s.ks W s.dp (graphW s W) where
  len := by unfold graphW; rw [List.length_append, graphL_len]; rfl
  row := fun i hi j hj => by
    unfold graphW gat
    rw [List.getD_eq_getElem?_getD, List.getElem?_append_left (by rw [graphL_len]; exact hi), ← List.getD_eq_getElem?_getD]
    show _ ∈ gat (graphL s W W.length) i ↔ _
    rw [graphL_at _ _ _ hi]
    exact rowG_mem hn _ hj (by omega)
  out := fun i hi => by
    unfold graphW gat
    rw [List.getD_eq_getElem?_getD, List.getElem?_append_left (by rw [graphL_len]; exact hi), ← List.getD_eq_getElem?_getD]
    show _ ∈ gat (graphL s W W.length) i ↔ _
    rw [graphL_at _ _ _ hi]
    exact rowG_out hn hs _
  last := by
    unfold graphW gat
    rw [List.getD_eq_getElem?_getD, List.getElem?_append_right (by rw [graphL_len]; exact Nat.le_refl _), graphL_len, Nat.sub_self]
    rfl
def Ru.ws (s : Ru) : List In2 := s.ks.filter s.wt
theorem ws_mem {s : Ru} (h : RuI s) (a : In2) : a ∈ s.ws ↔ s.wt a = true := by
  unfold Ru.ws
  rw [List.mem_filter]
  exact ⟨fun k => k.2, fun k => ⟨h.sub a k, k⟩⟩
theorem ws_rise {s : Ru} (h : RuI s) : RiseI s.ws := List.Pairwise.filter _ h.rise
theorem ws_open {s : Ru} (h : RuI s) (i : Nat) (hi : i < s.ws.length) : openX (graphW s s.ws) (List.replicate s.ws.length true) (i : Int) ↔ Opn s.ks s.dp s.ws[i] := by
  refine GrW.open_iff (graphW_W s (ws_rise h).nodup fun a ha => h.sub a ((ws_mem h a).1 ha)) h.clo (fun a => ?_) i hi _ rfl
  rw [ws_mem h]
  constructor
  · intro k; exact ⟨h.sub a k, by rw [k]; decide⟩
  · rintro ⟨_, k⟩
    cases hw : s.wt a with
    | false => exact absurd hw k
    | true => rfl
end Go.Proofs.YtcpgamidimfflaaGreat
namespace Go.Proofs.YtcpgamidimfflaaGreat
open Go.RowKit Go.My Go.Maps
set_option linter.unusedSimpArgs false
set_option linter.unusedVariables false
attribute [local go_sem ↓] Go.wp_at_zero Go.wp_at_succ
end Go.Proofs.YtcpgamidimfflaaGreat
namespace Go.Proofs.YtcpgamidimfflaaGreat
open Go.RowKit Go.My Go.Maps
set_option linter.unusedSimpArgs false
set_option linter.unusedVariables false
attribute [local go_sem ↓] Go.wp_at_zero Go.wp_at_succ
end Go.Proofs.YtcpgamidimfflaaGreat
namespace Go.Proofs.YtcpgamidimfflaaGreat
open Go.RowKit Go.My Go.Maps
set_option linter.unusedSimpArgs false
set_option linter.unusedVariables false
attribute [local go_sem ↓] Go.wp_at_zero Go.wp_at_succ
end Go.Proofs.YtcpgamidimfflaaGreat
namespace Go.Proofs.YtcpgamidimfflaaGreat
open Go.RowKit Go.My Go.Maps
set_option linter.unusedSimpArgs false
set_option linter.unusedVariables false
attribute [local go_sem ↓] Go.wp_at_zero Go.wp_at_succ
end Go.Proofs.YtcpgamidimfflaaGreat
namespace Go.Proofs.YtcpgamidimfflaaGreat
open Go.RowKit Go.My Go.Maps
set_option linter.unusedSimpArgs false
set_option linter.unusedVariables false
def OdR (w0 : World) (cs : List Value) (o : Od) : Prop := ∃ v, cs = o.cs v ∧ o.ok ∧ (∀ g ∈ o.legs, g.ok) ∧ LgS w0 (Lt w0.heap.size) v o.legs
def OdsS (w0 w : World) (F : Nat → Prop) (A : Option Addr) (l : List Od) : Prop := ∃ cells, Rd w F 10 A l.length cells ∧ Each (OdR w0) 10 cells l
section
variable {w0 w w' : World} {F G : Nat → Prop} {A : Option Addr} {l : List Od}
theorem OdsS.fr {S : Nat → Prop} (h : OdsS w0 w F A l) (hf : Fr S w w') (hn : ∀ k, F k → k < w.heap.size → ¬ S k) : OdsS w0 w' F A l := by
  obtain ⟨cells, hr, hE⟩ := h
  exact ⟨cells, hr.fr (by omega) hf hn, hE⟩
theorem OdsS.more (h : OdsS w0 w F A l) (hB : ∀ k, F k → G k) : OdsS w0 w G A l := by
  obtain ⟨cells, hr, hE⟩ := h
  exact ⟨cells, hr.more hB, hE⟩
theorem OdsS.below {B : Nat} (h : OdsS w0 w F A l) (hb : Below B w w') (hF : ∀ k, F k → k < B) : OdsS w0 w' F A l := by
  obtain ⟨cells, hr, hE⟩ := h
  exact ⟨cells, hr.below hb hF, hE⟩
theorem OdsS.ok (h : OdsS w0 w F A l) : ∀ o ∈ l, o.ok := fun o ho => by
  obtain ⟨cells, hr, hE⟩ := h
  obtain ⟨i, hi, rfl⟩ := List.getElem_of_mem ho
  obtain ⟨v, _, h1, _⟩ := hE.2 i _ (List.getElem?_eq_getElem hi)
  exact h1
theorem OdsS.at_ (h : OdsS w0 w F A l) (k : Nat) (hk : k < l.length) :
    ∃ ad v, A = some ad ∧ F ad.block ∧ l[k].ok ∧ (∀ g ∈ l[k].legs, g.ok) ∧ LgS w0 (Lt w0.heap.size) v l[k].legs ∧ w.cell? (ad.add (k * 10)) = some (.int .i64 l[k].cl) ∧ w.cell? ⟨(ad.add (k * 10)).block, (ad.add (k * 10)).off + 1, none⟩ = some (.int .i64 l[k].sq) ∧
      w.cell? ⟨(ad.add (k * 10)).block, (ad.add (k * 10)).off + 2, none⟩ = some (.int .i64 l[k].kd) ∧ w.cell? ⟨(ad.add (k * 10)).block, (ad.add (k * 10)).off + 3, none⟩ = some (.string l[k].acct) ∧
      w.cell? ⟨(ad.add (k * 10)).block, (ad.add (k * 10)).off + 4, none⟩ = some (.string l[k].peer) ∧ w.cell? ⟨(ad.add (k * 10)).block, (ad.add (k * 10)).off + 5, none⟩ = some (.int .i64 l[k].sum) ∧
      w.cell? ⟨(ad.add (k * 10)).block, (ad.add (k * 10)).off + 6, none⟩ = some v ∧ w.cell? ⟨(ad.add (k * 10)).block, (ad.add (k * 10)).off + 7, none⟩ = some (.int .i64 l[k].per) ∧
      w.cell? ⟨(ad.add (k * 10)).block, (ad.add (k * 10)).off + 8, none⟩ = some (.int .i64 l[k].hold) ∧ w.cell? ⟨(ad.add (k * 10)).block, (ad.add (k * 10)).off + 9, none⟩ = some (.string l[k].note) := by
  obtain ⟨cells, hr, hE⟩ := h
  obtain ⟨ad, rfl, hF, hc⟩ := hr.2 (by omega)
  obtain ⟨v, hcs, hok, hg, hL⟩ := hE.2 k l[k] (List.getElem?_eq_getElem hk)
  have hget : ∀ i, i < 10 → cells[k * 10 + i]? = (l[k].cs v)[i]? := fun i hi => by
    rw [← hcs, List.getElem?_take, if_pos hi, List.getElem?_drop]
  refine ⟨ad, v, rfl, hF, hok, hg, hL, hc (k * 10) _ (by have := hget 0 (by omega); rw [Nat.add_zero] at this; rw [this]; rfl), ?_, ?_, ?_, ?_, ?_, ?_, ?_, ?_, ?_⟩
  · rw [← add_lits ad (k * 10) 1 (by omega)]
    exact hc _ _ (by rw [hget 1 (by omega)]; rfl)
  · rw [← add_lits ad (k * 10) 2 (by omega)]
    exact hc _ _ (by rw [hget 2 (by omega)]; rfl)
  · rw [← add_lits ad (k * 10) 3 (by omega)]
    exact hc _ _ (by rw [hget 3 (by omega)]; rfl)
  · rw [← add_lits ad (k * 10) 4 (by omega)]
    exact hc _ _ (by rw [hget 4 (by omega)]; rfl)
  · rw [← add_lits ad (k * 10) 5 (by omega)]
    exact hc _ _ (by rw [hget 5 (by omega)]; rfl)
  · rw [← add_lits ad (k * 10) 6 (by omega)]
    exact hc _ _ (by rw [hget 6 (by omega)]; rfl)
  · rw [← add_lits ad (k * 10) 7 (by omega)]
    exact hc _ _ (by rw [hget 7 (by omega)]; rfl)
  · rw [← add_lits ad (k * 10) 8 (by omega)]
    exact hc _ _ (by rw [hget 8 (by omega)]; rfl)
  · rw [← add_lits ad (k * 10) 9 (by omega)]
    exact hc _ _ (by rw [hget 9 (by omega)]; rfl)
end
theorem elO : El Tryz.prog 55 35 10 120 := ⟨Tryz.underlying55, by
  have h : (Tryz.prog.info? 35).map (fun i => (i.zero, i.size, i.bytes)) = some (some (.agg #[.int .i64 0, .int .i64 0, .int .i64 0, .string ⟨#[]⟩, .string ⟨#[]⟩, .int .i64 0, .slice none 0 0, .int .i64 0, .int .i64 0, .string ⟨#[]⟩]), 10, 120) := by kernel_rfl
  obtain ⟨i, hi, hz, hs, hb⟩ := info_parts h
  exact ⟨i, _, hi, hz, hs, hb, rfl⟩, by omega⟩
section
open Go.ChangeShapes Go.WideShapes
variable {H : Type} {enc : TypeId × Value → H} {w : World} {base : Nat} {spare : Nat → Bool} {held : Bool}
end
end Go.Proofs.YtcpgamidimfflaaGreat
namespace Go.Proofs.YtcpgamidimfflaaGreat
open Go.RowKit Go.My Go.Maps Go.WideMaps
set_option linter.unusedSimpArgs false
set_option linter.unusedVariables false
attribute [local go_sem ↓] Go.wp_at_zero Go.wp_at_succ
end Go.Proofs.YtcpgamidimfflaaGreat
namespace Go.Proofs.YtcpgamidimfflaaGreat
open Go.RowKit Go.My Go.Maps Go.WideMaps
set_option linter.unusedSimpArgs false
set_option linter.unusedVariables false
attribute [local go_sem ↓] Go.wp_at_zero Go.wp_at_succ
theorem IMp.len_ {w : World} {m : Nat} {L : List Idk} (h : IMp w m L) (ty : TypeId) : (Builtin.len_ #[136] ty #[.map (some m)]).run Tryz.prog w = .ok (.int .i64 (keysF L).length) w := by
  obtain ⟨D, hD, hR⟩ := h.own
  have := hD.len Tryz.underlying136 ty
  rw [hR.size] at this
  exact this
end Go.Proofs.YtcpgamidimfflaaGreat
namespace Go.Proofs.YtcpgamidimfflaaGreat
open Go.RowKit Go.My Go.Maps
set_option linter.unusedSimpArgs false
set_option linter.unusedVariables false
theorem elL : El Tryz.prog 33 152 2 24 := ⟨Tryz.underlying33, by
  have h : (Tryz.prog.info? 152).map (fun i => (i.zero, i.size, i.bytes)) = some (some (.agg #[.string ⟨#[]⟩, .int .i64 0]), 2, 24) := by kernel_rfl
  obtain ⟨i, hi, hz, hs, hb⟩ := info_parts h
  exact ⟨i, _, hi, hz, hs, hb, rfl⟩, by omega⟩
def lgC (g : Lg) : List Value := [.string g.acct, .int .i64 g.sum]
def lgs (L : List Lg) : List Value := L.flatMap lgC
theorem lgs_ones (L : List Lg) : ∀ y ∈ lgs L, y.oneCell' = true := by
  intro y hy
  unfold lgs at hy
  rw [List.mem_flatMap] at hy
  obtain ⟨a, _, ha⟩ := hy
  simp only [lgC, List.mem_cons, List.not_mem_nil, or_false] at ha
  rcases ha with rfl | rfl <;> rfl
theorem each_lgs : ∀ (L : List Lg) (cells : List Value), Each RdLg 2 cells L → cells = lgs L
  | [], cells, h => by
    have := h.1
    simp at this
    rw [this]
    rfl
  | g :: r, cells, h => by
    have h0 := (h.2 0 g rfl).1
    rw [Nat.zero_mul, List.drop_zero] at h0
    have hr := each_lgs r (cells.drop 2) ⟨by rw [List.length_drop, h.1, List.length_cons]; omega, fun i x hx => by
      have := h.2 (i + 1) x (by rw [List.getElem?_cons_succ]; exact hx)
      rw [List.drop_drop]
      rwa [show 2 + i * 2 = (i + 1) * 2 by omega]⟩
    show cells = lgC g ++ lgs r
    have e := List.take_append_drop 2 cells
    rw [h0, hr] at e
    exact e.symm
end Go.Proofs.YtcpgamidimfflaaGreat
namespace Go.Proofs.YtcpgamidimfflaaGreat
open Go.RowKit Go.My Go.Maps Go.WideMaps
set_option linter.unusedSimpArgs false
set_option linter.unusedVariables false
attribute [local go_sem ↓] Go.wp_at_zero Go.wp_at_succ
def New (B : Nat) (w : World) (g : Option Nat) (k : Nat) : Prop := B ≤ k ∧ k < w.heap.size ∧ g ≠ some k
theorem LgS.more {w : World} {F G : Nat → Prop} {v : Value} {L : List Lg} (h : LgS w F v L) (hF : ∀ k, F k → G k) : LgS w G v L := by
  obtain ⟨A, c, cells, e, hr, r⟩ := h
  exact ⟨A, c, cells, e, hr.more hF, r⟩
theorem LgS.frS {w w' : World} {F S : Nat → Prop} {v : Value} {L : List Lg} (h : LgS w F v L) (hf : Fr S w w') (hn : ∀ k, F k → k < w.heap.size → ¬ S k) : LgS w' F v L := by
  obtain ⟨A, c, cells, e, hr, r⟩ := h
  exact ⟨A, c, cells, e, hr.fr (by omega) hf hn, r⟩
theorem LgS.okl {w : World} {F : Nat → Prop} {v : Value} {L : List Lg} (h : LgS w F v L) : ∀ g ∈ L, g.ok := fun g hg => by
  obtain ⟨A, c, cells, e, hr, hE, _⟩ := h
  obtain ⟨i, hi, rfl⟩ := List.getElem_of_mem hg
  exact (hE.2 i _ (List.getElem?_eq_getElem hi)).2
def RetLg (w : World) (L : List Lg) (e : Ending) (w' : World) : Prop := ∃ A c, e = .returned (.slice A L.length c) ∧ LgS w' (New w.heap.size w' none) (.slice A L.length c) L ∧ Fr No w w'
set_option maxRecDepth 100000 in
theorem cloneL_any (F : Nat → Prop) (v : Value) (L : List Lg) (w : World) (h : LgS w F v L) (hl : L.length ≤ 100000) :
    Calls Tryz.prog 94 #[v] w (RetLg w L) := by
  have hok := h.okl
  obtain ⟨A, c, cells, rfl, hr, hE, h1, h2⟩ := h
  have hce := each_lgs L cells hE
  have hnil := fun W => Lib.run_eql_slice_nil (P := Tryz.prog) W 33 152 A L.length c 0 0 Tryz.underlying33
  rcases A with _ | ad
  · have hl0 : L.length = 0 := by
      rcases Nat.eq_zero_or_pos L.length with h0 | h0
      · exact h0
      · obtain ⟨ad, h, _⟩ := hr.2 h0
        cases h
    have : L = [] := List.eq_nil_of_length_eq_zero hl0
    subst this
    simp only [Option.isNone_none, List.length_nil] at hnil
    clear hr hE hce hok
    go_enter Tryz.func94, Tryz.ntmps94
    go_wp2
    go_ret
    exact ⟨none, 0, rfl, LgS_nil _ _, Fr.refl _ _⟩
  · simp only [Option.isNone_some] at hnil
    have hmt : Own (w.alloc (.cells #[] 152)) 152 2 (.slice (some ⟨w.heap.size, 0, none⟩) 0 0) 0 [] := ⟨by simp, .inr ⟨w.heap.size, 0, #[], rfl, heap_alloc_new w _, by omega, by simp only [maxLen]; omega, by simp, by simp⟩⟩
    have hsrc : Src Tryz.prog (w.alloc (.cells #[] 152)) 2 33 (.slice (some ad) L.length c) L.length cells :=
      Src.of_rd (hr.fr (S := No) (by omega) ((Fr.refl _ _).alloc _) (fun _ _ _ h => h)) (by rw [hce]; exact lgs_ones L) Tryz.underlying33
    have HM := Lib.hid hmt
    have HR := Lib.hid hsrc
    have HE := Lib.hid hE
    have HS := Lib.hid hl
    clear hr hE hce hok hmt hsrc hl h1 h2
    go_enter Tryz.func94, Tryz.ntmps94
    go_wp2_with (at_builtin; refine wpList_app _ rfl (.tmp 5) (.tmp 6) 33 33 rfl elL HM.out rfl HR.out rfl (by simp only [maxLen]; have := HS.out; omega) (by have := HS.out; omega) ?_; intro v1 w1 ho1 hf1 hn1)
    go_ret
    rw [Nat.zero_add, List.nil_append] at ho1
    obtain ⟨A1, c1, rfl, hc1, hc2⟩ := ho1.form
    have hf2 : Fr No w w1 := ((Fr.refl No w).alloc (.cells #[] 152)).trans' hf1 (fun i hi hlt => by
      simp only [AtO, Value.ownBlock, Option.some.injEq] at hi
      omega)
    refine ⟨A1, c1, rfl, ⟨A1, c1, cells, rfl, ho1.rd.lt (by omega) |>.more (fun k hk => ?_), HE.out, hc1, hc2⟩, hf2⟩
    refine ⟨?_, hk.2, fun h => by cases h⟩
    rcases hn1 with h | h
    · rw [h] at hk
      have := hk.1
      simp only [Value.ownBlock, Option.some.injEq] at this
      omega
    · rw [h] at hk
      have := hk.1
      simp only [Option.some.injEq, World.size_alloc] at this
      omega
def OrdRet (w : World) (o : Od) (e : Ending) (w' : World) : Prop := ∃ A c, e = .returned (o.val (.slice A o.legs.length c)) ∧ LgS w' (New w.heap.size w' none) (.slice A o.legs.length c) o.legs ∧ Fr No w w'
theorem fr_set10 (w : World) (g : Nat) (a0 a1 a2 a3 a4 a5 a6 a7 a8 a9 : Value) : Fr (At1 g) w ((((((((((w.setCell ⟨g, 0, none⟩ a0).setCell ⟨g, 1, none⟩ a1).setCell ⟨g, 2, none⟩ a2).setCell ⟨g, 3, none⟩ a3).setCell ⟨g, 4, none⟩ a4).setCell ⟨g, 5, none⟩ a5).setCell ⟨g, 6, none⟩ a6).setCell ⟨g, 7, none⟩ a7).setCell ⟨g, 8, none⟩ a8).setCell ⟨g, 9, none⟩ a9) := (((((((((fr_set w g 0 a0).trans (fr_set _ g 1 a1)).trans (fr_set _ g 2 a2)).trans (fr_set _ g 3 a3)).trans (fr_set _ g 4 a4)).trans (fr_set _ g 5 a5)).trans (fr_set _ g 6 a6)).trans (fr_set _ g 7 a7)).trans (fr_set _ g 8 a8)).trans (fr_set _ g 9 a9)
set_option maxRecDepth 100000 in
set_option maxHeartbeats 2000000 in
theorem copyO_any (F : Nat → Prop) (o : Od) (v : Value) (w : World) (hv : LgS w F v o.legs) (hl : o.legs.length ≤ 100000) : Calls Tryz.prog 61 #[o.val v] w (OrdRet w o) := by
  have HT : Hid (∀ W, Fr No w W → Calls Tryz.prog 94 #[v] W (RetLg W o.legs)) := fun W hW => cloneL_any F v o.legs W (hv.no hW) hl
  obtain ⟨vB, vd, rfl, -, -⟩ := hv.form
  clear hv hl
  obtain ⟨ocl, osq, okd, oac, ope, osm, olg, opr, ohd, ont⟩ := o
  unfold OrdRet Od.val Od.cs at *
  unfold RetLg at HT
  simp only at HT ⊢
  generalize olg.length = vn at *
  have hbo := (Blk.new w 35 #[.int .i64 ocl, .int .i64 osq, .int .i64 okd, .string oac, .string ope, .int .i64 osm, .slice vB vn vd, .int .i64 opr, .int .i64 ohd, .string ont]).alloc (.cells #[.int .i64 0, .int .i64 0, .int .i64 0, .string ⟨#[]⟩, .string ⟨#[]⟩, .int .i64 0, .slice none 0 0, .int .i64 0, .int .i64 0, .string ⟨#[]⟩] 35)
  have hbz := Blk.new (w.alloc (.cells #[.int .i64 ocl, .int .i64 osq, .int .i64 okd, .string oac, .string ope, .int .i64 osm, .slice vB vn vd, .int .i64 opr, .int .i64 ohd, .string ont] 35)) 35 #[.int .i64 0, .int .i64 0, .int .i64 0, .string ⟨#[]⟩, .string ⟨#[]⟩, .int .i64 0, .slice none 0 0, .int .i64 0, .int .i64 0, .string ⟨#[]⟩]
  rw [World.size_alloc] at hbz
  have hf1 : Fr No w ((w.alloc (.cells #[.int .i64 ocl, .int .i64 osq, .int .i64 okd, .string oac, .string ope, .int .i64 osm, .slice vB vn vd, .int .i64 opr, .int .i64 ohd, .string ont] 35)).alloc (.cells #[.int .i64 0, .int .i64 0, .int .i64 0, .string ⟨#[]⟩, .string ⟨#[]⟩, .int .i64 0, .slice none 0 0, .int .i64 0, .int .i64 0, .string ⟨#[]⟩] 35)) := ((Fr.refl _ _).alloc _).alloc _
  have hsz : ((w.alloc (.cells #[.int .i64 ocl, .int .i64 osq, .int .i64 okd, .string oac, .string ope, .int .i64 osm, .slice vB vn vd, .int .i64 opr, .int .i64 ohd, .string ont] 35)).alloc (.cells #[.int .i64 0, .int .i64 0, .int .i64 0, .string ⟨#[]⟩, .string ⟨#[]⟩, .int .i64 0, .slice none 0 0, .int .i64 0, .int .i64 0, .string ⟨#[]⟩] 35)).heap.size = w.heap.size + 2 := by rw [World.size_alloc, World.size_alloc]
  go_enter Tryz.func61, Tryz.ntmps61
  go_upto_region 1 with (fail)
  generalize ((w.alloc (.cells #[.int .i64 ocl, .int .i64 osq, .int .i64 okd, .string oac, .string ope, .int .i64 osm, .slice vB vn vd, .int .i64 opr, .int .i64 ohd, .string ont] 35)).alloc (.cells #[.int .i64 0, .int .i64 0, .int .i64 0, .string ⟨#[]⟩, .string ⟨#[]⟩, .int .i64 0, .slice none 0 0, .int .i64 0, .int .i64 0, .string ⟨#[]⟩] 35)) = w2 at *
  have HF1 := Lib.hid hf1
  have HBO := Lib.hid hbo
  have HBZ := Lib.hid hbz
  have HSZ := Lib.hid hsz
  have x6 := hbo.cell 6
  simp only [List.getElem?_toArray, List.getElem?_cons_zero, List.getElem?_cons_succ] at x6
  clear hbo hbz hf1 hsz
  go_wp2_with fail
  (with_reducible refine (HT.out _ HF1.out).mono ?_)
  rintro e w3 ⟨A1, c1, rfl, hL3, hf3⟩
  have hbo := HBO.out.fr hf3 (fun h => h)
  have hbz := HBZ.out.fr hf3 (fun h => h)
  have HL3 := Lib.hid hL3
  have HF3 := Lib.hid hf3
  have HBZ3 := Lib.hid hbz
  have x0 := hbo.cell 0
  have y0 := hbz.cell 0
  have zx0 := hbo.frozen 0
  have zy0 := hbz.frozen 0
  have x1 := hbo.cell 1
  have y1 := hbz.cell 1
  have zx1 := hbo.frozen 1
  have zy1 := hbz.frozen 1
  have x2 := hbo.cell 2
  have y2 := hbz.cell 2
  have zx2 := hbo.frozen 2
  have zy2 := hbz.frozen 2
  have x3 := hbo.cell 3
  have y3 := hbz.cell 3
  have zx3 := hbo.frozen 3
  have zy3 := hbz.frozen 3
  have x4 := hbo.cell 4
  have y4 := hbz.cell 4
  have zx4 := hbo.frozen 4
  have zy4 := hbz.frozen 4
  have x5 := hbo.cell 5
  have y5 := hbz.cell 5
  have zx5 := hbo.frozen 5
  have zy5 := hbz.frozen 5
  have x6 := hbo.cell 6
  have y6 := hbz.cell 6
  have zx6 := hbo.frozen 6
  have zy6 := hbz.frozen 6
  have x7 := hbo.cell 7
  have y7 := hbz.cell 7
  have zx7 := hbo.frozen 7
  have zy7 := hbz.frozen 7
  have x8 := hbo.cell 8
  have y8 := hbz.cell 8
  have zx8 := hbo.frozen 8
  have zy8 := hbz.frozen 8
  have x9 := hbo.cell 9
  have y9 := hbz.cell 9
  have zx9 := hbo.frozen 9
  have zy9 := hbz.frozen 9
  simp only [List.getElem?_toArray, List.getElem?_cons_zero, List.getElem?_cons_succ] at x0 y0 x1 y1 x2 y2 x3 y3 x4 y4 x5 y5 x6 y6 x7 y7 x8 y8 x9 y9
  have hbo6 := hbo.set_ 6 (.slice A1 vn c1)
  have HFA : Hid (Fr (At1 w.heap.size) w3 (w3.setCell ⟨w.heap.size, 6, none⟩ (.slice A1 vn c1))) := fr_set _ _ _ _
  have HFB : Hid (Fr (At1 (w.heap.size + 1)) (w3.setCell ⟨w.heap.size, 6, none⟩ (.slice A1 vn c1)) _) := fr_set10 _ (w.heap.size + 1) (.int .i64 ocl) (.int .i64 osq) (.int .i64 okd) (.string oac) (.string ope) (.int .i64 osm) (.slice A1 vn c1) (.int .i64 opr) (.int .i64 ohd) (.string ont)
  clear hbo hbz hbo6 hL3 hf3 HT
  go_wp2
  refine bodyPost_ret (v := .agg #[.int .i64 ocl, .int .i64 osq, .int .i64 okd, .string oac, .string ope, .int .i64 osm, .slice A1 vn c1, .int .i64 opr, .int .i64 ohd, .string ont]) (by simp [results, Tryz.results61, go_sem, y0, y1, y2, y3, y4, y5, y6, y7, y8, y9]) rfl ?_
  refine ⟨A1, c1, rfl, ?_, ?_⟩
  · refine ((HL3.out.frS HFA.out ?_).frS HFB.out ?_).more ?_
    · rintro k hk _ rfl
      have := hk.1
      have := HSZ.out
      omega
    · rintro k hk _ rfl
      have := hk.1
      have := HSZ.out
      omega
    · intro k hk
      have h1 := hk.1
      have h2 := HSZ.out
      have h3 := HFA.out.size
      have h4 := HFB.out.size
      have h5 := hk.2.1
      exact ⟨by omega, by omega, hk.2.2⟩
  · refine ((HF1.out.trans HF3.out).trans' HFA.out ?_).trans' HFB.out ?_
    · rintro i rfl hlt
      omega
    · rintro i rfl hlt
      omega
end Go.Proofs.YtcpgamidimfflaaGreat
namespace Go.Proofs.YtcpgamidimfflaaGreat
open Go.RowKit Go.My Go.Maps
set_option linter.unusedSimpArgs false
set_option linter.unusedVariables false
attribute [local go_sem ↓] Go.wp_at_zero Go.wp_at_succ
theorem elIn : El Tryz.prog 36 30 2 16 := ⟨Tryz.underlying36, by
  have h : (Tryz.prog.info? 30).map (fun i => (i.zero, i.size, i.bytes)) = some (some (.agg #[.int .i64 0, .int .i64 0]), 2, 16) := by kernel_rfl
  obtain ⟨i, hi, hz, hs, hb⟩ := info_parts h
  exact ⟨i, _, hi, hz, hs, hb, rfl⟩, by omega⟩
theorem ins2_ones (l : List In2) : ∀ y ∈ ins2 l, y.oneCell' = true := fun y hy => by
  obtain ⟨e, _, h⟩ := List.mem_flatMap.1 hy
  unfold encI at h
  simp only [List.mem_cons, List.not_mem_nil, or_false] at h
  rcases h with rfl | rfl <;> rfl
set_option maxRecDepth 100000 in
set_option maxHeartbeats 1000000 in
theorem cloneIn_any (F : Nat → Prop) (A : Option Addr) (c : Nat) (l : List In2) (w : World) (hr : Rd w F 2 A l.length (ins2 l)) (hl : l.length ≤ 1000000) :
    Calls Tryz.prog 86 #[.slice A l.length c] w (RetOwn w 30 2 none l.length (ins2 l)) := by
  have hnil := fun W => Lib.run_eql_slice_nil (P := Tryz.prog) W 36 30 A l.length c 0 0 Tryz.underlying36
  rcases A with _ | ad
  · have hl0 : l.length = 0 := by
      rcases Nat.eq_zero_or_pos l.length with h0 | h0
      · exact h0
      · obtain ⟨ad, h, _⟩ := hr.2 h0
        cases h
    have : l = [] := List.eq_nil_of_length_eq_zero hl0
    subst this
    simp only [Option.isNone_none, List.length_nil] at hnil
    clear hr
    go_enter Tryz.func86, Tryz.ntmps86
    go_wp2
    go_ret
    exact ⟨_, rfl, Own.nil _ _ _, Fr.refl _ _, .inl rfl⟩
  · simp only [Option.isNone_some] at hnil
    have hmt : Own (w.alloc (.cells #[] 30)) 30 2 (.slice (some ⟨w.heap.size, 0, none⟩) 0 0) 0 [] := ⟨by simp, .inr ⟨w.heap.size, 0, #[], rfl, heap_alloc_new w _, by omega, by simp only [maxLen]; omega, by simp, by simp⟩⟩
    have hsrc : Src Tryz.prog (w.alloc (.cells #[] 30)) 2 36 (.slice (some ad) l.length c) l.length (ins2 l) :=
      Src.of_rd (hr.fr (S := No) (by omega) ((Fr.refl _ _).alloc _) (fun _ _ _ h => h)) (ins2_ones l) Tryz.underlying36
    have HM := Lib.hid hmt
    have HR := Lib.hid hsrc
    have HS := Lib.hid hl
    clear hr hmt hsrc hl
    go_enter Tryz.func86, Tryz.ntmps86
    go_wp2_with (at_builtin; refine wpList_app _ rfl (.tmp 5) (.tmp 6) 36 36 rfl elIn HM.out rfl HR.out rfl (by simp only [maxLen]; have := HS.out; omega) (by have := HS.out; omega) ?_; intro v1 w1 ho1 hf1 hn1)
    go_ret
    rw [Nat.zero_add, List.nil_append] at ho1
    refine ⟨v1, rfl, ho1, ?_, ?_⟩
    · exact (((Fr.refl No w).alloc (.cells #[] 30)).trans' hf1 (fun i hi hlt => by
        simp only [AtO, Value.ownBlock, Option.some.injEq] at hi
        omega)).mono fun _ _ h => False.elim h
    · rcases hn1 with h1 | h1
      · rw [h1]
        exact .inr ⟨_, rfl, Nat.le_refl _⟩
      · rw [h1, World.size_alloc]
        exact .inr ⟨_, rfl, by omega⟩
end Go.Proofs.YtcpgamidimfflaaGreat
