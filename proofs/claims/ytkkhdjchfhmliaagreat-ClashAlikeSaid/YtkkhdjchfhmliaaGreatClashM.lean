/- Which lists begin one another, as the program reckons it, and as it is said. Of no walk. -/
import Derived.Test.YtkkhdjchfhmliaaGreatClashMath
import Derived.Test.YtkkhdjchfhmliaaGreatMOV
import Derived.Test.YtkkhdjchfhmliaaGreatTrace
namespace Go.Proofs.YtkkhdjchfhmliaaGreat
open Go.RowKit Go.My Go.Maps
set_option linter.unusedSimpArgs false
set_option linter.unusedVariables false

theorem nodup_inj {α : Type} {L : List α} (hn : L.Nodup) {i j : Nat} (hi : i < L.length) (hj : j < L.length) (e : L[i] = L[j]) : i = j := by
  have h := List.pairwise_iff_getElem.1 hn
  rcases Nat.lt_trichotomy i j with k | k | k
  · exact absurd e (h i j hi hj k)
  · exact k
  · exact absurd e.symm (h j i hj hi k)
theorem posF_of {L : List Idk} (hn : L.Nodup) {i : Nat} {k : Idk} (h : L[i]? = some k) : posF L k = some i := by
  have hm : k ∈ L := List.mem_of_getElem? h
  have hs := posF_isSome L k
  rw [decide_eq_true hm] at hs
  obtain ⟨j, hj⟩ := Option.isSome_iff_exists.1 hs
  obtain ⟨hl, he⟩ := posF_some hj
  rw [hj]
  obtain ⟨hi, h⟩ := List.getElem?_eq_some_iff.1 h
  obtain ⟨hl', he⟩ := List.getElem?_eq_some_iff.1 he
  have := nodup_inj hn hl' hi (he.trans h.symm)
  rw [this]
theorem posF_none {L : List Idk} {k : Idk} : posF L k = none ↔ k ∉ L := by
  have := posF_isSome L k
  cases h : posF L k with
  | none => rw [h] at this; simpa using this
  | some i => rw [h] at this; simp at this; simpa using this
theorem rightL_iff (l : List Od) : rightL l = true ↔ Rt Od.id l := by
  unfold rightL Rt idsO
  rw [decide_eq_true_iff]
theorem idsO_length (l : List Od) : (idsO l).length = l.length := by unfold idsO; rw [List.length_map]
theorem idsO_get (l : List Od) (i : Nat) : (idsO l)[i]? = (l[i]?).map Od.id := by unfold idsO; rw [List.getElem?_map]

/-- an order stands in b, where its Id stands last -/
def hasB (b : List Od) (o : Od) : Bool := match posF (idsO b) o.id with
  | some i => (b[i]?).any fun x => eqO x o
  | none => false
def containsB (b a : List Od) : Bool := a.all (hasB b)
theorem hasB_mem {b : List Od} {o : Od} (h : hasB b o = true) : o ∈ b := by
  unfold hasB at h
  split at h
  · rename_i i hi
    cases hx : b[i]? with
    | none => rw [hx] at h; cases h
    | some x =>
      rw [hx] at h
      have : x = o := (eqO_iff _ _).1 h
      exact this ▸ List.mem_of_getElem? hx
  · cases h
theorem hasB_of {b : List Od} (hb : Rt Od.id b) {o : Od} (h : o ∈ b) : hasB b o = true := by
  obtain ⟨i, hi, rfl⟩ := List.mem_iff_getElem.1 h
  have e : (idsO b)[i]? = some b[i].id := by rw [idsO_get, List.getElem?_eq_getElem hi]; rfl
  unfold hasB
  rw [posF_of (L := idsO b) hb e]
  simp only
  rw [List.getElem?_eq_getElem hi]
  exact (eqO_iff _ _).2 rfl
theorem containsB_iff {b a : List Od} (hb : Rt Od.id b) : containsB b a = true ↔ ∀ o ∈ a, o ∈ b := by
  unfold containsB
  rw [List.all_eq_true]
  exact ⟨fun h o ho => hasB_mem (h o ho), fun h o ho => hasB_of hb (h o ho)⟩

/-- x may not stand ahead of o -/
def badB (a : List Od) (o x : Od) : Bool := clashB x o && (!(decide (x.id ∈ idsO a)) || decide (posO (posF (idsO a) o.id) < posO (posF (idsO a) x.id)))
/-- nothing that may not stands ahead of o -/
def okAt (a pre : List Od) (o : Od) : Bool := !(decide (o.id ∈ idsO a) && pre.any (badB a o))
def begB (a b : List Od) : Bool := (List.range b.length).all fun j => (b[j]?).all fun o => okAt a (b.take j) o
def beginsB (a b : List Od) : Bool := rightL a && rightL b && containsB b a && begB a b
theorem pos_lt {a : List Od} (ha : Rt Od.id a) {x o : Od} (hx : x ∈ a) (ho : o ∈ a) : posO (posF (idsO a) x.id) < posO (posF (idsO a) o.id) ↔ bef x o a := by
  obtain ⟨i, hi, rfl⟩ := List.mem_iff_getElem.1 hx
  obtain ⟨j, hj, rfl⟩ := List.mem_iff_getElem.1 ho
  have e : ∀ i (hi : i < a.length), posF (idsO a) a[i].id = some i := fun i hi => posF_of (L := idsO a) ha (by rw [idsO_get, List.getElem?_eq_getElem hi]; rfl)
  rw [e i hi, e j hj]
  unfold posO
  simp only
  rw [bef_iff_get]
  constructor
  · intro h
    exact ⟨j, hj, rfl, List.mem_take_iff_getElem.2 ⟨i, by omega, rfl⟩⟩
  · rintro ⟨k, hk, h1, h2⟩
    obtain ⟨m, hm, h3⟩ := List.mem_take_iff_getElem.1 h2
    have k1 := nodup_inj ha.nodup hk hj h1
    have k2 := nodup_inj ha.nodup (by omega) hi h3
    omega
theorem beginsB_iff (a b : List Od) : beginsB a b = true ↔ Bg Od.id clashB a b := by
  unfold beginsB Bg
  rw [Bool.and_eq_true, Bool.and_eq_true, Bool.and_eq_true, rightL_iff, rightL_iff]
  constructor
  · rintro ⟨⟨⟨ha, hb⟩, hc⟩, hg⟩
    have hc := (containsB_iff hb).1 hc
    refine ⟨ha, hb, hc, fun x o hbf hcl ho => ?_⟩
    unfold begB at hg
    rw [List.all_eq_true] at hg
    obtain ⟨j, hj, rfl, hx⟩ := (bef_iff_get x o b).1 hbf
    have h1 := hg j (List.mem_range.2 hj)
    rw [List.getElem?_eq_getElem hj] at h1
    have h1 : okAt a (b.take j) b[j] = true := h1
    unfold okAt at h1
    have hid : b[j].id ∈ idsO a := List.mem_map_of_mem ho
    rw [decide_eq_true hid, Bool.true_and, Bool.not_eq_true', List.any_eq_false] at h1
    have h2 := h1 x hx
    unfold badB at h2
    rw [hcl, Bool.true_and] at h2
    simp only [Bool.or_eq_true, Bool.not_eq_true', decide_eq_false_iff_not, decide_eq_true_eq, not_or, Decidable.not_not] at h2
    obtain ⟨h3, h4⟩ := h2
    obtain ⟨z, hz, e⟩ := List.mem_map.1 h3
    have hxa : x ∈ a := by
      rw [hb.inj (bef_mem hbf).1 (hc z hz) e.symm]
      exact hz
    rcases bef_total hxa ho (bef_ne hb.nodup hbf) with k | k
    · exact k
    · exact absurd ((pos_lt ha ho hxa).2 k) h4
  · rintro ⟨ha, hb, hc, hg⟩
    refine ⟨⟨⟨ha, hb⟩, (containsB_iff hb).2 hc⟩, ?_⟩
    unfold begB
    rw [List.all_eq_true]
    intro j hj
    have hj := List.mem_range.1 hj
    rw [List.getElem?_eq_getElem hj]
    show okAt a (b.take j) b[j] = true
    unfold okAt
    by_cases hid : b[j].id ∈ idsO a
    · rw [decide_eq_true hid, Bool.true_and, Bool.not_eq_true', List.any_eq_false]
      intro x hx
      have hbf := (bef_iff_get x b[j] b).2 ⟨j, hj, rfl, hx⟩
      obtain ⟨z, hz, e⟩ := List.mem_map.1 hid
      have hoa : b[j] ∈ a := by
        rw [hb.inj (List.getElem_mem hj) (hc z hz) e.symm]
        exact hz
      unfold badB
      cases hcl : clashB x b[j] with
      | false => simp
      | true =>
        have k := hg x b[j] hbf hcl hoa
        have hxi : x.id ∈ idsO a := List.mem_map_of_mem (bef_mem k).1
        rw [decide_eq_true hxi]
        simp only [Bool.not_true, Bool.false_or, Bool.true_and, decide_eq_true_eq]
        intro h
        exact bef_anti ha.nodup k ((pos_lt ha hoa (bef_mem k).1).1 h)
    · rw [decide_eq_false hid]
      rfl
def alikeB (a b : List Od) : Bool := decide (a.length = b.length) && beginsB a b
theorem alikeB_iff (a b : List Od) : alikeB a b = true ↔ Ak Od.id clashB a b := by
  unfold alikeB Ak
  rw [Bool.and_eq_true, decide_eq_true_iff, beginsB_iff]
/-- those that are not in a -/
def outO (a b : List Od) : List Od := others Od.id a b
theorem outO_eq (a b : List Od) : outO a b = b.filter fun o => !(posF (idsO a) o.id).isSome := by
  unfold outO others
  congr 1
  funext o
  rw [posF_isSome, Bool.eq_iff_iff]
  unfold idsO
  simp only [decide_eq_true_eq, Bool.not_eq_true', decide_eq_false_iff_not]
def restO (a b : List Od) : List Od := if beginsB a b then outO a b else []
/-- where two lists meet -/
def meetO (a b : List Od) : List Od := a ++ outO a b
def meetB (a b : List Od) : Bool := beginsB a (meetO a b) && beginsB b (meetO a b)
def retMeet (a b : List Od) : List Od := if meetB a b then meetO a b else []
/-- neighbours that change places -/
def swapO (l : List Od) (i : Nat) : Option (List Od) := match l[i]?, l[i + 1]? with
  | some x, some y => if clashB x y then none else some ((l.set i y).set (i + 1) x)
  | _, _ => none
theorem set_two (l : List Od) (i : Nat) (h : i + 1 < l.length) (x y : Od) : (l.set i x).set (i + 1) y = l.take i ++ x :: y :: l.drop (i + 2) := by
  apply List.ext_getElem?
  intro k
  rw [List.getElem?_set, List.getElem?_set]
  simp only [List.length_set, List.getElem?_append, List.length_take, List.getElem?_cons, List.getElem?_drop, List.getElem?_take]
  have hmn : min i l.length = i := by omega
  rw [hmn]
  by_cases h1 : k < i
  · rw [if_neg (by omega), if_neg (by omega), if_pos h1, if_pos h1]
  · rw [if_neg h1]
    by_cases h2 : i = k
    · subst h2
      rw [if_neg (by omega), if_pos rfl, if_pos (by omega), if_pos (by omega)]
    · by_cases h3 : i + 1 = k
      · subst h3
        rw [if_pos rfl, if_pos (by omega), if_neg (by omega), if_pos (by omega)]
      · rw [if_neg h3, if_neg h2, if_neg (by omega), if_neg (by omega)]
        congr 1
        omega
theorem swap_form {l m : List Od} {i : Nat} (h : swapO l i = some m) : ∃ p x y r, l = p ++ x :: y :: r ∧ m = p ++ y :: x :: r ∧ clashB x y = false ∧ p.length = i := by
  unfold swapO at h
  split at h
  · rename_i x y hx hy
    obtain ⟨hi, rfl⟩ := List.getElem?_eq_some_iff.1 hx
    obtain ⟨hj, rfl⟩ := List.getElem?_eq_some_iff.1 hy
    split at h
    · cases h
    · rename_i hc
      simp only [Option.some.injEq] at h
      subst h
      refine ⟨l.take i, l[i], l[i + 1], l.drop (i + 2), ?_, set_two l i hj _ _, by simpa using hc, by rw [List.length_take]; omega⟩
      rw [← List.drop_eq_getElem_cons, ← List.drop_eq_getElem_cons, List.take_append_drop]
  · cases h
theorem swap_ak {l m : List Od} {i : Nat} (hl : Rt Od.id l) (h : swapO l i = some m) : Ak Od.id clashB l m := by
  obtain ⟨p, x, y, r, rfl, rfl, hc, _⟩ := swap_form h
  exact Ak.swap clashB_comm hl hc
end Go.Proofs.YtkkhdjchfhmliaaGreat
