/- Which lists begin one another, as the program reckons it, and as it is said. Of no walk. Orders that do not clash may change places: what an order looks at, and changes; lists that are alike tell the same. In lists, of no walk. What happens on an account, in a list of orders: events. In lists, of no walk. -/
import Derived.Test.YtlanhclgbkhdlaaGreatQ11
import Derived.Test.YtlanhclgbkhdlaaGreatQ10
namespace Go.Proofs.YtlanhclgbkhdlaaGreat
open Go.RowKit Go.My Go.Maps
set_option linter.unusedSimpArgs false
set_option linter.unusedVariables false

theorem nodup_inj {α : Type} {L : List α} (hn : L.Nodup) {i j : Nat} (hi : i < L.length) (hj : j < L.length) (e : L[i] = L[j]) : i = j := by
  have h := List.pairwise_iff_getElem.1 hn
  rcases Nat.lt_trichotomy i j with k | k | k
  · exact absurd e (h i j hi hj k)
  · exact k
  · exact absurd e.symm (h j i hj hi k)
theorem posF_of {L : List Idk} (hn : L.Nodup) {i : Nat} {k : Idk} (h : L[i]? = some k) : posF L k = some i := by
  have hm : k ∈ L := List.mem_of_getElem? h
  have hs := posF_isSome L k
  rw [decide_eq_true hm] at hs
  obtain ⟨j, hj⟩ := Option.isSome_iff_exists.1 hs
  obtain ⟨hl, he⟩ := posF_some hj
  rw [hj]
  obtain ⟨hi, h⟩ := List.getElem?_eq_some_iff.1 h
  obtain ⟨hl', he⟩ := List.getElem?_eq_some_iff.1 he
  have := nodup_inj hn hl' hi (he.trans h.symm)
  rw [this]
theorem posF_none {L : List Idk} {k : Idk} : posF L k = none ↔ k ∉ L := by
  have := posF_isSome L k
  cases h : posF L k with
  | none => rw [h] at this; simpa using this
  | some i => rw [h] at this; simp at this; simpa using this
theorem rightL_iff (l : List Od) : rightL l = true ↔ Rt Od.id l := by
  unfold rightL Rt idsO
  rw [decide_eq_true_iff]
theorem idsO_length (l : List Od) : (idsO l).length = l.length := by unfold idsO; rw [List.length_map]
theorem idsO_get (l : List Od) (i : Nat) : (idsO l)[i]? = (l[i]?).map Od.id := by unfold idsO; rw [List.getElem?_map]

/-- an order stands in b, where its Id stands last -/
def hasB (b : List Od) (o : Od) : Bool := match posF (idsO b) o.id with
  | some i => (b[i]?).any fun x => eqO x o
  | none => false
def containsB (b a : List Od) : Bool := a.all (hasB b)
theorem hasB_mem {b : List Od} {o : Od} (h : hasB b o = true) : o ∈ b := by
  unfold hasB at h
  split at h
  · rename_i i hi
    cases hx : b[i]? with
    | none => rw [hx] at h; cases h
    | some x =>
      rw [hx] at h
      have : x = o := (eqO_iff _ _).1 h
      exact this ▸ List.mem_of_getElem? hx
  · cases h
theorem hasB_of {b : List Od} (hb : Rt Od.id b) {o : Od} (h : o ∈ b) : hasB b o = true := by
  obtain ⟨i, hi, rfl⟩ := List.mem_iff_getElem.1 h
  have e : (idsO b)[i]? = some b[i].id := by rw [idsO_get, List.getElem?_eq_getElem hi]; rfl
  unfold hasB
  rw [posF_of (L := idsO b) hb e]
  simp only
  rw [List.getElem?_eq_getElem hi]
  exact (eqO_iff _ _).2 rfl
theorem containsB_iff {b a : List Od} (hb : Rt Od.id b) : containsB b a = true ↔ ∀ o ∈ a, o ∈ b := by
  unfold containsB
  rw [List.all_eq_true]
  exact ⟨fun h o ho => hasB_mem (h o ho), fun h o ho => hasB_of hb (h o ho)⟩

/-- x may not stand ahead of o -/
def badB (a : List Od) (o x : Od) : Bool := clashB x o && (!(decide (x.id ∈ idsO a)) || decide (posO (posF (idsO a) o.id) < posO (posF (idsO a) x.id)))
/-- nothing that may not stands ahead of o -/
def okAt (a pre : List Od) (o : Od) : Bool := !(decide (o.id ∈ idsO a) && pre.any (badB a o))
def begB (a b : List Od) : Bool := (List.range b.length).all fun j => (b[j]?).all fun o => okAt a (b.take j) o
def beginsB (a b : List Od) : Bool := rightL a && rightL b && containsB b a && begB a b
theorem pos_lt {a : List Od} (ha : Rt Od.id a) {x o : Od} (hx : x ∈ a) (ho : o ∈ a) : posO (posF (idsO a) x.id) < posO (posF (idsO a) o.id) ↔ bef x o a := by
  obtain ⟨i, hi, rfl⟩ := List.mem_iff_getElem.1 hx
  obtain ⟨j, hj, rfl⟩ := List.mem_iff_getElem.1 ho
  have e : ∀ i (hi : i < a.length), posF (idsO a) a[i].id = some i := fun i hi => posF_of (L := idsO a) ha (by rw [idsO_get, List.getElem?_eq_getElem hi]; rfl)
  rw [e i hi, e j hj]
  unfold posO
  simp only
  rw [bef_iff_get]
  constructor
  · intro h
    exact ⟨j, hj, rfl, List.mem_take_iff_getElem.2 ⟨i, by omega, rfl⟩⟩
  · rintro ⟨k, hk, h1, h2⟩
    obtain ⟨m, hm, h3⟩ := List.mem_take_iff_getElem.1 h2
    have k1 := nodup_inj ha.nodup hk hj h1
    have k2 := nodup_inj ha.nodup (by omega) hi h3
    omega
theorem beginsB_iff (a b : List Od) : beginsB a b = true ↔ Bg Od.id clashB a b := by
  unfold beginsB Bg
  rw [Bool.and_eq_true, Bool.and_eq_true, Bool.and_eq_true, rightL_iff, rightL_iff]
  constructor
  · rintro ⟨⟨⟨ha, hb⟩, hc⟩, hg⟩
    have hc := (containsB_iff hb).1 hc
    refine ⟨ha, hb, hc, fun x o hbf hcl ho => ?_⟩
    unfold begB at hg
    rw [List.all_eq_true] at hg
    obtain ⟨j, hj, rfl, hx⟩ := (bef_iff_get x o b).1 hbf
    have h1 := hg j (List.mem_range.2 hj)
    rw [List.getElem?_eq_getElem hj] at h1
    have h1 : okAt a (b.take j) b[j] = true := h1
    unfold okAt at h1
    have hid : b[j].id ∈ idsO a := List.mem_map_of_mem ho
    rw [decide_eq_true hid, Bool.true_and, Bool.not_eq_true', List.any_eq_false] at h1
    have h2 := h1 x hx
    unfold badB at h2
    rw [hcl, Bool.true_and] at h2
    simp only [Bool.or_eq_true, Bool.not_eq_true', decide_eq_false_iff_not, decide_eq_true_eq, not_or, Decidable.not_not] at h2
    obtain ⟨h3, h4⟩ := h2
    obtain ⟨z, hz, e⟩ := List.mem_map.1 h3
    have hxa : x ∈ a := by
      rw [hb.inj (bef_mem hbf).1 (hc z hz) e.symm]
      exact hz
    rcases bef_total hxa ho (bef_ne hb.nodup hbf) with k | k
    · exact k
    · exact absurd ((pos_lt ha ho hxa).2 k) h4
  · rintro ⟨ha, hb, hc, hg⟩
    refine ⟨⟨⟨ha, hb⟩, (containsB_iff hb).2 hc⟩, ?_⟩
    unfold begB
    rw [List.all_eq_true]
    intro j hj
    have hj := List.mem_range.1 hj
    rw [List.getElem?_eq_getElem hj]
    show okAt a (b.take j) b[j] = true
    unfold okAt
    by_cases hid : b[j].id ∈ idsO a
    · rw [decide_eq_true hid, Bool.true_and, Bool.not_eq_true', List.any_eq_false]
      intro x hx
      have hbf := (bef_iff_get x b[j] b).2 ⟨j, hj, rfl, hx⟩
      obtain ⟨z, hz, e⟩ := List.mem_map.1 hid
      have hoa : b[j] ∈ a := by
        rw [hb.inj (List.getElem_mem hj) (hc z hz) e.symm]
        exact hz
      unfold badB
      cases hcl : clashB x b[j] with
      | false => simp
      | true =>
        have k := hg x b[j] hbf hcl hoa
        have hxi : x.id ∈ idsO a := List.mem_map_of_mem (bef_mem k).1
        rw [decide_eq_true hxi]
        simp only [Bool.not_true, Bool.false_or, Bool.true_and, decide_eq_true_eq]
        intro h
        exact bef_anti ha.nodup k ((pos_lt ha hoa (bef_mem k).1).1 h)
    · rw [decide_eq_false hid]
      rfl
def alikeB (a b : List Od) : Bool := decide (a.length = b.length) && beginsB a b
theorem alikeB_iff (a b : List Od) : alikeB a b = true ↔ Ak Od.id clashB a b := by
  unfold alikeB Ak
  rw [Bool.and_eq_true, decide_eq_true_iff, beginsB_iff]
/-- those that are not in a -/
def outO (a b : List Od) : List Od := others Od.id a b
theorem outO_eq (a b : List Od) : outO a b = b.filter fun o => !(posF (idsO a) o.id).isSome := by
  unfold outO others
  congr 1
  funext o
  rw [posF_isSome, Bool.eq_iff_iff]
  unfold idsO
  simp only [decide_eq_true_eq, Bool.not_eq_true', decide_eq_false_iff_not]
def restO (a b : List Od) : List Od := if beginsB a b then outO a b else []
/-- where two lists meet -/
def meetO (a b : List Od) : List Od := a ++ outO a b
def meetB (a b : List Od) : Bool := beginsB a (meetO a b) && beginsB b (meetO a b)
def retMeet (a b : List Od) : List Od := if meetB a b then meetO a b else []
/-- neighbours that change places -/
def swapO (l : List Od) (i : Nat) : Option (List Od) := match l[i]?, l[i + 1]? with
  | some x, some y => if clashB x y then none else some ((l.set i y).set (i + 1) x)
  | _, _ => none
theorem set_two (l : List Od) (i : Nat) (h : i + 1 < l.length) (x y : Od) : (l.set i x).set (i + 1) y = l.take i ++ x :: y :: l.drop (i + 2) := by
  apply List.ext_getElem?
  intro k
  rw [List.getElem?_set, List.getElem?_set]
  simp only [List.length_set, List.getElem?_append, List.length_take, List.getElem?_cons, List.getElem?_drop, List.getElem?_take]
  have hmn : min i l.length = i := by omega
  rw [hmn]
  by_cases h1 : k < i
  · rw [if_neg (by omega), if_neg (by omega), if_pos h1, if_pos h1]
  · rw [if_neg h1]
    by_cases h2 : i = k
    · subst h2
      rw [if_neg (by omega), if_pos rfl, if_pos (by omega), if_pos (by omega)]
    · by_cases h3 : i + 1 = k
      · subst h3
        rw [if_pos rfl, if_pos (by omega), if_neg (by omega), if_pos (by omega)]
      · rw [if_neg h3, if_neg h2, if_neg (by omega), if_neg (by omega)]
        congr 1
        omega
theorem swap_form {l m : List Od} {i : Nat} (h : swapO l i = some m) : ∃ p x y r, l = p ++ x :: y :: r ∧ m = p ++ y :: x :: r ∧ clashB x y = false ∧ p.length = i := by
  unfold swapO at h
  split at h
  · rename_i x y hx hy
    obtain ⟨hi, rfl⟩ := List.getElem?_eq_some_iff.1 hx
    obtain ⟨hj, rfl⟩ := List.getElem?_eq_some_iff.1 hy
    split at h
    · cases h
    · rename_i hc
      simp only [Option.some.injEq] at h
      subst h
      refine ⟨l.take i, l[i], l[i + 1], l.drop (i + 2), ?_, set_two l i hj _ _, by simpa using hc, by rw [List.length_take]; omega⟩
      rw [← List.drop_eq_getElem_cons, ← List.drop_eq_getElem_cons, List.take_append_drop]
  · cases h
theorem swap_ak {l m : List Od} {i : Nat} (hl : Rt Od.id l) (h : swapO l i = some m) : Ak Od.id clashB l m := by
  obtain ⟨p, x, y, r, rfl, rfl, hc, _⟩ := swap_form h
  exact Ak.swap clashB_comm hl hc
end Go.Proofs.YtlanhclgbkhdlaaGreat

namespace Go.Proofs.YtlanhclgbkhdlaaGreat
open Go.RowKit Go.My Go.Maps
set_option linter.unusedSimpArgs false
set_option linter.unusedVariables false

/-- the accounts that an order that may be looks at -/
def names (o : Od) : List (List UInt8) := if o.kd = 2 then o.legs.map Lg.nm else if o.kd = 4 then [o.an, o.pn] else [o.an]
theorem name_ne {l : List UInt8} (h : nameB l = true) : l ≠ [] := by
  rintro rfl
  unfold nameB at h
  simp at h
theorem names_touch {o : Od} (hr : rightO o = true) (h6 : o.kd ≠ 6) : ∀ s ∈ names o, s ∈ touchL o := by
  have hm : ∀ s, s ∈ allN o o.legs.length → s ≠ [] → s ∈ touchL o := fun s h1 h2 => by
    unfold touchL
    rw [(upOf_spec _).2 s]
    unfold namesO
    rw [List.mem_filter]
    refine ⟨h1, ?_⟩
    cases s with
    | nil => exact absurd rfl h2
    | cons => rfl
  unfold rightO idB at hr
  simp only [Bool.and_eq_true, decide_eq_true_eq] at hr
  obtain ⟨h1, h2, ⟨h3, h4, h5, _⟩, ha, hp, hs, hl, hper, hh, hn⟩ := hr
  have han : o.kd ≠ 2 → nameB o.an = true := fun h => by
    unfold acctB at ha
    rw [if_neg (by rintro (e | e); exact h e; exact h6 e)] at ha
    exact ha
  intro s hs
  unfold names at hs
  split at hs
  · rename_i k
    unfold legsB at hl
    rw [if_pos k] at hl
    obtain ⟨g, hg, rfl⟩ := List.mem_map.1 hs
    refine hm _ ?_ ?_
    · unfold allN
      rw [List.take_length]
      exact List.mem_append_right _ (List.mem_map_of_mem hg)
    · unfold rightB at hl
      simp only [Bool.and_eq_true, List.all_eq_true] at hl
      exact name_ne (hl.1.2 g hg).1
  · rename_i k2
    split at hs
    · rename_i k4
      simp only [List.mem_cons, List.not_mem_nil, or_false] at hs
      rcases hs with rfl | rfl
      · exact hm _ (by unfold allN; simp) (name_ne (han k2))
      · unfold peerB at hp
        rw [if_pos k4, Bool.and_eq_true] at hp
        exact hm _ (by unfold allN; simp) (name_ne hp.1)
    · rw [List.mem_singleton] at hs
      subst hs
      exact hm _ (by unfold allN; simp) (name_ne (han k2))
theorem about_loc {S S' : List Ac} {nm : List UInt8} {e : Int} (h : getA S nm = getA S' nm) : aboutR S nm e = aboutR S' nm e := by
  unfold aboutR getV
  rw [h]
theorem eff_cong {b b' : Bk} {o : Od} (h6 : o.kd ≠ 6) (hs : AgS (names o) b.S b'.S) (hh : AgH (names o) b.H b'.H) (hc : b.cl = b'.cl) (hl : o.kd = 1 → b.S.length = b'.S.length) (r1 : RiseH b.H) (r2 : RiseH b'.H) :
    effR b o = effR b' o ∧ AgS (names o) (effB b o).S (effB b' o).S ∧ AgH (names o) (effB b o).H (effB b' o).H := by
  unfold effR effB
  by_cases k1 : o.kd = 1
  · have hm : o.an ∈ names o := by unfold names; rw [if_neg (by omega), if_neg (by omega)]; exact List.mem_cons_self
    rw [if_pos k1, if_pos k1, if_pos k1, if_pos k1]
    obtain ⟨e1, e2⟩ := open_cong (lim := o.sum) hs hm (hl k1)
    exact ⟨by rw [e1]; exact about_loc (e2 _ hm), e2, hh⟩
  rw [if_neg k1, if_neg k1, if_neg k1, if_neg k1]
  by_cases k2 : o.kd = 2
  · have hm : ∀ g ∈ o.legs, g.nm ∈ names o := fun g hg => by unfold names; rw [if_pos k2]; exact List.mem_map_of_mem hg
    rw [if_pos k2, if_pos k2, if_pos k2, if_pos k2, hc]
    obtain ⟨e1, e2⟩ := make_cong hs hm
    split
    · exact ⟨rfl, hs, hh⟩
    · exact ⟨by rw [e1], e2, hh⟩
  rw [if_neg k2, if_neg k2, if_neg k2, if_neg k2]
  by_cases k3 : o.kd = 3
  · have hm : o.an ∈ names o := by unfold names; rw [if_neg (by omega), if_neg (by omega)]; exact List.mem_cons_self
    rw [if_pos k3, if_pos k3, if_pos k3, if_pos k3]
    obtain ⟨e1, e2⟩ := put_cong (n := numO o) (x := o.sum) hs hh hm r1 r2
    exact ⟨by rw [put_loc (hs _ hm) (hh _ hm), about_loc (e1 _ hm)], e1, e2⟩
  rw [if_neg k3, if_neg k3, if_neg k3, if_neg k3]
  by_cases k4 : o.kd = 4
  · have hm : o.an ∈ names o := by unfold names; rw [if_neg (by omega), if_pos k4]; exact List.mem_cons_self
    have hp : o.pn ∈ names o := by unfold names; rw [if_neg (by omega), if_pos k4]; exact List.mem_cons_of_mem _ List.mem_cons_self
    rw [if_pos k4, if_pos k4, if_pos k4, if_pos k4, hc]
    obtain ⟨e0, e1, e2⟩ := take_cong (n := o.hold) (x := o.sum) (a := o.acct) (b := o.peer) hs hh hm hp
    split
    · exact ⟨rfl, hs, hh⟩
    · exact ⟨by rw [e0]; exact about_loc (e1 _ hm), e1, e2⟩
  rw [if_neg k4, if_neg k4, if_neg k4, if_neg k4]
  by_cases k5 : o.kd = 5
  · have hm : o.an ∈ names o := by unfold names; rw [if_neg (by omega), if_neg (by omega)]; exact List.mem_cons_self
    rw [if_pos k5, if_pos k5, if_pos k5, if_pos k5]
    obtain ⟨e0, e1, e2⟩ := free_cong (n := o.hold) hs hh hm
    exact ⟨by rw [e0]; exact about_loc (e1 _ hm), e1, e2⟩
  rw [if_neg k5, if_neg k5, if_neg k5, if_neg k5, if_neg h6, if_neg h6, if_neg h6, if_neg h6]
  have hm : o.an ∈ names o := by unfold names; rw [if_neg (by omega), if_neg (by omega)]; exact List.mem_cons_self
  exact ⟨about_loc (hs _ hm), hs, hh⟩
theorem eff_far {b : Bk} {o : Od} (h6 : o.kd ≠ 6) {k : List UInt8} (hk : k ∉ names o) : getA (effB b o).S k = getA b.S k ∧ ofH (effB b o).H k = ofH b.H k := by
  unfold effB
  by_cases k1 : o.kd = 1
  · have hm : k ≠ o.an := fun e => hk (by unfold names; rw [if_neg (by omega), if_neg (by omega), e]; exact List.mem_cons_self)
    rw [if_pos k1]
    exact ⟨open_far _ _ _ hm, rfl⟩
  rw [if_neg k1]
  by_cases k2 : o.kd = 2
  · have hm : ∀ g ∈ o.legs, g.nm ≠ k := fun g hg e => hk (by unfold names; rw [if_pos k2, ← e]; exact List.mem_map_of_mem hg)
    rw [if_pos k2]
    split
    · exact ⟨rfl, rfl⟩
    · exact ⟨make_far hm, rfl⟩
  rw [if_neg k2]
  by_cases k3 : o.kd = 3
  · have hm : k ≠ o.an := fun e => hk (by unfold names; rw [if_neg (by omega), if_neg (by omega), e]; exact List.mem_cons_self)
    rw [if_pos k3]
    unfold putSS putHH
    split
    · exact ⟨asd_far _ _ _ hm, ofH_ins_far _ _ hm⟩
    · exact ⟨rfl, rfl⟩
  rw [if_neg k3]
  by_cases k4 : o.kd = 4
  · have hm : k ≠ o.an := fun e => hk (by unfold names; rw [if_neg (by omega), if_pos k4, e]; exact List.mem_cons_self)
    have hp : k ≠ o.pn := fun e => hk (by unfold names; rw [if_neg (by omega), if_pos k4, e]; exact List.mem_cons_of_mem _ List.mem_cons_self)
    rw [if_pos k4]
    split
    · exact ⟨rfl, rfl⟩
    · unfold takeSS takeHH
      split
      · refine ⟨?_, ofH_del_far _ _ _ hm⟩
        simp only
        refine (make_far (fun g hg e => ?_)).trans (asd_far _ o.acct.data.toList _ hm)
        unfold legsT at hg
        simp only [List.mem_cons, List.not_mem_nil, or_false] at hg
        rcases hg with rfl | rfl
        · exact hm e.symm
        · exact hp e.symm
      · exact ⟨rfl, rfl⟩
  rw [if_neg k4]
  by_cases k5 : o.kd = 5
  · have hm : k ≠ o.an := fun e => hk (by unfold names; rw [if_neg (by omega), if_neg (by omega), e]; exact List.mem_cons_self)
    rw [if_pos k5]
    refine ⟨?_, ?_⟩
    · simp only
      unfold freeSS
      split
      · rfl
      · exact asd_far _ _ _ hm
    · simp only
      unfold freeHH
      split
      · exact ofH_del_far _ _ _ hm
      · rfl
  rw [if_neg k5, if_neg h6]
  exact ⟨rfl, rfl⟩
theorem eff_cl {b : Bk} {o : Od} (h6 : o.kd ≠ 6) : (effB b o).cl = b.cl := by
  unfold effB
  repeat' split
  all_goals first | rfl | (rename_i h _; exact absurd h h6) | (rename_i h; exact absurd h h6)
theorem eff_len {b : Bk} (hb : BkI b) {o : Od} (h1 : o.kd ≠ 1) : (effB b o).S.length = b.S.length := by
  have hI : Inv b.S := hb.st.kp.inv
  unfold effB
  rw [if_neg h1]
  by_cases k2 : o.kd = 2
  · rw [if_pos k2]
    split
    · rfl
    · exact make_len hI
  rw [if_neg k2]
  by_cases k3 : o.kd = 3
  · rw [if_pos k3]
    simp only
    unfold putSS
    split
    · exact asd_len hI.rise _ _
    · rfl
  rw [if_neg k3]
  by_cases k4 : o.kd = 4
  · rw [if_pos k4]
    split
    · rfl
    · simp only
      unfold takeSS
      split
      · rw [make_len (inv_aside hI _ _), asd_len hI.rise]
      · rfl
  rw [if_neg k4]
  by_cases k5 : o.kd = 5
  · rw [if_pos k5]
    simp only
    unfold freeSS
    split
    · rfl
    · exact asd_len hI.rise _ _
  rw [if_neg k5]
  split
  · split <;> rfl
  · rfl
/-- neighbours that do not clash -/
theorem do_swap {b : Bk} (hb : BkI b) {o p : Od} (ho : o.ok) (hp : p.ok) (hc : clashB o p = false) : doB (doB b o) p = doB (doB b p) o ∧ doR (doB b o) p = doR b p ∧ doR (doB b p) o = doR b o := by
  have hbo := do_inv hb ho
  have hbp := do_inv hb hp
  have hbop := do_inv hbo hp
  have hbpo := do_inv hbp ho
  unfold clashB at hc
  rw [Bool.or_eq_false_iff, decide_eq_false_iff_not] at hc
  obtain ⟨hn, hmt⟩ := hc
  simp only [not_or, not_and] at hn
  obtain ⟨_, o6, p6, h11⟩ := hn
  by_cases ro : rightO o = true
  · by_cases rp : rightO p = true
    · have hdis : ∀ s, s ∈ names o → s ∉ names p := fun s h1 h2 => by
        have := (meetL_iff _ _).2 ⟨s, names_touch ro o6 s h1, names_touch rp p6 s h2⟩
        rw [hmt] at this
        cases this
      unfold doB at hbo hbp hbop hbpo ⊢
      unfold doR
      rw [if_pos ro] at hbo hbpo ⊢
      rw [if_pos rp] at hbp hbop ⊢
      simp only [if_pos ro, if_pos rp] at hbop hbpo ⊢
      have cp := eff_cong (b := effB b o) (b' := b) (o := p) p6 (fun k hk => (eff_far o6 fun h => hdis k h hk).1) (fun k hk => (eff_far o6 fun h => hdis k h hk).2) (eff_cl o6) (fun h => eff_len hb fun e => h11 e h) hbo.st.rise hb.st.rise
      have co := eff_cong (b := effB b p) (b' := b) (o := o) o6 (fun k hk => (eff_far p6 fun h => hdis k hk h).1) (fun k hk => (eff_far p6 fun h => hdis k hk h).2) (eff_cl p6) (fun h => eff_len hb fun e => h11 h e) hbp.st.rise hb.st.rise
      refine ⟨?_, cp.1, co.1⟩
      have key : ∀ k, getA (effB (effB b o) p).S k = getA (effB (effB b p) o).S k ∧ ofH (effB (effB b o) p).H k = ofH (effB (effB b p) o).H k := fun k => by
        by_cases k1 : k ∈ names o
        · have k2 := hdis k k1
          have f1 := eff_far (b := effB b o) p6 k2
          exact ⟨f1.1.trans (co.2.1 k k1).symm, f1.2.trans (co.2.2 k k1).symm⟩
        · have f1 := eff_far (b := effB b p) o6 k1
          by_cases k2 : k ∈ names p
          · exact ⟨(cp.2.1 k k2).trans f1.1.symm, (cp.2.2 k k2).trans f1.2.symm⟩
          · have f2 := eff_far (b := effB b o) p6 k2
            have f3 := eff_far (b := b) o6 k1
            have f4 := eff_far (b := b) p6 k2
            exact ⟨(f2.1.trans f3.1).trans (f1.1.trans f4.1).symm, (f2.2.trans f3.2).trans (f1.2.trans f4.2).symm⟩
      have eS := riseA_ext hbop.st.kp.inv.rise hbpo.st.kp.inv.rise fun k => (key k).1
      have eH := riseH_ext hbop.st.rise hbpo.st.rise fun k => (key k).2
      have eC : (effB (effB b o) p).cl = (effB (effB b p) o).cl := by rw [eff_cl p6, eff_cl o6, eff_cl o6, eff_cl p6]
      generalize effB (effB b o) p = x at *
      generalize effB (effB b p) o = y at *
      obtain ⟨xS, xH, xc⟩ := x
      obtain ⟨yS, yH, yc⟩ := y
      simp only at eS eH eC
      rw [eS, eH, eC]
    · have e : ∀ b, doB b p = b := fun b => by unfold doB; rw [if_neg rp]
      have e2 : ∀ b, doR b p = errR 1 := fun b => by unfold doR; rw [if_neg rp]
      rw [e, e, e2, e2]
      exact ⟨rfl, rfl, rfl⟩
  · have e : ∀ b, doB b o = b := fun b => by unfold doB; rw [if_neg ro]
    have e2 : ∀ b, doR b o = errR 1 := fun b => by unfold doR; rw [if_neg ro]
    rw [e, e, e2, e2]
    exact ⟨rfl, rfl, rfl⟩

/-! ### lists that are alike -/
/-- each order with what is told of it -/
def pairs : Bk → List Od → List (Od × Rp)
  | _, [] => []
  | b, o :: r => (o, doR b o) :: pairs (doB b o) r
theorem pairs_get (b : Bk) (l : List Od) : ∀ i : Nat, (pairs b l)[i]? = match l[i]?, (foldR b l)[i]? with | some o, some r => some (o, r) | _, _ => none := by
  induction l generalizing b with
  | nil => intro i; rfl
  | cons o r ih =>
    intro i
    cases i with
    | zero => rfl
    | succ i => exact ih (doB b o) i
/-- an order goes ahead of those with which it does not clash -/
theorem fold_ahead {x : Od} (hx : x.ok) (q : List Od) : ∀ (p : List Od) {b : Bk}, BkI b → (∀ y ∈ p, y.ok ∧ clashB y x = false) → foldB b (p ++ x :: q) = foldB b (x :: (p ++ q)) ∧ (∀ z, z ∈ pairs b (p ++ x :: q) ↔ z ∈ pairs b (x :: (p ++ q)))
  | [], b, _, _ => ⟨rfl, fun _ => Iff.rfl⟩
  | y :: p, b, hb, h => by
    obtain ⟨hy, hc⟩ := h y List.mem_cons_self
    obtain ⟨e1, e2, e3⟩ := do_swap hb hy hx hc
    obtain ⟨i1, i2⟩ := fold_ahead hx q p (do_inv hb hy) fun z hz => h z (List.mem_cons_of_mem _ hz)
    constructor
    · show foldB (doB b y) (p ++ x :: q) = foldB (doB (doB b x) y) (p ++ q)
      rw [i1, ← e1]
      rfl
    · intro z
      show z ∈ (y, doR b y) :: pairs (doB b y) (p ++ x :: q) ↔ z ∈ (x, doR b x) :: (y, doR (doB b x) y) :: pairs (doB (doB b x) y) (p ++ q)
      rw [List.mem_cons, i2 z, e3, ← e1]
      show z = _ ∨ z ∈ (x, doR (doB b y) x) :: pairs (doB (doB b y) x) (p ++ q) ↔ _
      rw [e2, List.mem_cons, List.mem_cons, List.mem_cons]
      constructor
      · rintro (h | h | h)
        · exact .inr (.inl h)
        · exact .inl h
        · exact .inr (.inr h)
      · rintro (h | h | h)
        · exact .inr (.inl h)
        · exact .inl h
        · exact .inr (.inr h)
theorem fold_ak : ∀ (l m : List Od) {b : Bk}, BkI b → (∀ o ∈ l, o.ok) → Ak Od.id clashB l m → foldB b l = foldB b m ∧ ∀ z, z ∈ pairs b l ↔ z ∈ pairs b m
  | [], m, b, _, _, h => by
    have : m = [] := List.eq_nil_of_length_eq_zero h.1.symm
    subst this
    exact ⟨rfl, fun _ => Iff.rfl⟩
  | x :: l, m, b, hb, hok, h => by
    have hx := hok x List.mem_cons_self
    have hs := Ak.symm clashB_comm h
    obtain ⟨p, q, rfl⟩ := List.append_of_mem (h.2.2.2.1 x List.mem_cons_self)
    have hmok : ∀ y ∈ p ++ x :: q, y.ok := fun y hy => hok y (hs.2.2.2.1 y hy)
    have hpc : ∀ y ∈ p, y.ok ∧ clashB y x = false := fun y hy => by
      refine ⟨hmok y (List.mem_append_left _ hy), ?_⟩
      cases hc : clashB y x with
      | false => rfl
      | true =>
        have h1 := h.2.2.2.2 y x ((bef_append _ _ _ _).2 (.inr (.inl ⟨hy, List.mem_cons_self⟩))) hc List.mem_cons_self
        have h2 := (bef_mem h1).1
        have hnd := h.2.1.nodup
        rw [List.nodup_cons] at hnd
        have hyx : y = x := by
          rcases h1 with ⟨e, h3⟩ | h3
          · exact e.symm
          · exact absurd (bef_mem h3).2 hnd.1
        subst hyx
        have hnm := h.2.2.1.nodup
        rw [List.nodup_append] at hnm
        exact absurd rfl (hnm.2.2 y hy y List.mem_cons_self)
    obtain ⟨a1, a2⟩ := fold_ahead hx q p hb hpc
    have hak : Ak Od.id clashB l (p ++ q) := by
      have hl := h.1
      have r1 := h.2.1
      have r2 := h.2.2.1
      have n2 := r2.nodup
      have hperm : (p ++ x :: q).Perm (x :: (p ++ q)) := List.perm_middle
      have r3 := r2.perm hperm
      unfold Rt at r1 r3
      rw [List.map_cons, List.nodup_cons] at r1 r3
      have n3 := (hperm.nodup_iff).1 n2
      rw [List.nodup_cons] at n3
      have n1 := h.2.1.nodup
      rw [List.nodup_cons] at n1
      refine ⟨?_, r1.2, r3.2, fun o ho => ?_, fun u o hbf hc ho => ?_⟩
      · simp only [List.length_append, List.length_cons] at hl ⊢
        omega
      · have h1 := h.2.2.2.1 o (List.mem_cons_of_mem _ ho)
        have h2 := (hperm.mem_iff).1 h1
        rcases List.mem_cons.1 h2 with e | h3
        · exact absurd (e ▸ ho) n1.1
        · exact h3
      · have h1 : bef u o (p ++ x :: q) := by
          rw [bef_append] at hbf ⊢
          rcases hbf with h | ⟨h, h'⟩ | h
          · exact .inl h
          · exact .inr (.inl ⟨h, List.mem_cons_of_mem _ h'⟩)
          · exact .inr (.inr (.inr h))
        have h2 := h.2.2.2.2 u o h1 hc (List.mem_cons_of_mem _ ho)
        rcases h2 with ⟨e, _⟩ | h2
        · have h3 := (bef_mem hbf).1
          exact absurd (e ▸ h3) n3.1
        · exact h2
    obtain ⟨b1, b2⟩ := fold_ak l (p ++ q) (do_inv hb hx) (fun o ho => hok o (List.mem_cons_of_mem _ ho)) hak
    constructor
    · rw [a1]
      exact b1
    · intro z
      rw [a2 z]
      show z ∈ (x, doR b x) :: pairs (doB b x) l ↔ z ∈ (x, doR b x) :: pairs (doB b x) (p ++ q)
      rw [List.mem_cons, List.mem_cons, b2 z]
/-- the reply to an order, wherever it stands -/
theorem reply_ak {l m : List Od} {b : Bk} (hb : BkI b) (hok : ∀ o ∈ l, o.ok) (h : Ak Od.id clashB l m) {i k : Nat} {o : Od} (hi : l[i]? = some o) (hk : m[k]? = some o) : (foldR b l)[i]? = (foldR b m)[k]? := by
  have h2 := (fold_ak l m hb hok h).2
  have lenl : (foldR b l).length = l.length := foldR_length b l
  have lenm : (foldR b m).length = m.length := foldR_length b m
  obtain ⟨hil, -⟩ := List.getElem?_eq_some_iff.1 hi
  obtain ⟨hkl, hko⟩ := List.getElem?_eq_some_iff.1 hk
  have e1 : (pairs b l)[i]? = some (o, (foldR b l)[i]'(by omega)) := by
    rw [pairs_get, hi, List.getElem?_eq_getElem (by omega)]
  have m1 := (h2 _).1 (List.mem_of_getElem? e1)
  obtain ⟨j, hj, hje⟩ := List.mem_iff_getElem.1 m1
  have e2 : (pairs b m)[j]? = some (o, (foldR b l)[i]'(by omega)) := by rw [List.getElem?_eq_getElem hj, hje]
  rw [pairs_get] at e2
  cases hm : m[j]? with
  | none => rw [hm] at e2; cases e2
  | some y =>
    cases hf : (foldR b m)[j]? with
    | none => rw [hm, hf] at e2; cases e2
    | some r =>
      rw [hm, hf] at e2
      simp only [Option.some.injEq, Prod.mk.injEq] at e2
      obtain ⟨e3, e4⟩ := e2
      obtain ⟨hjl, hjo⟩ := List.getElem?_eq_some_iff.1 hm
      have : j = k := nodup_inj h.2.2.1.nodup hjl hkl (by rw [hjo, hko, e3])
      subst this
      rw [hf, e4, List.getElem?_eq_getElem (by omega)]
end Go.Proofs.YtlanhclgbkhdlaaGreat

namespace Go.Proofs.YtlanhclgbkhdlaaGreat
open Go.RowKit Go.My Go.Maps
set_option linter.unusedSimpArgs false
set_option linter.unusedVariables false

/-- an event -/
structure Ev where
  cl : Int
  sq : Int
  kd : Int
  hv : Int
  st : Int
def evAt (b : Bk) (o : Od) (nm : List UInt8) : List Ev := match getA b.S nm with | some a => [⟨o.cl, o.sq, o.kd, a.hv, a.st⟩] | none => []
/-- what an order makes happen -/
def newEv (b : Bk) (o : Od) (nm : List UInt8) : List Ev := if (doR b o).err = 0 ∧ nm ∈ touchL o then evAt (doB b o) o nm else []
def evsL : Bk → List Od → List UInt8 → List Ev
  | _, [], _ => []
  | b, o :: r, nm => newEv b o nm ++ evsL (doB b o) r nm
theorem evsL_append (b : Bk) (l m : List Od) (nm : List UInt8) : evsL b (l ++ m) nm = evsL b l nm ++ evsL (foldB b l) m nm := by
  induction l generalizing b with
  | nil => rfl
  | cons o r ih =>
    show newEv b o nm ++ evsL (doB b o) (r ++ m) nm = (newEv b o nm ++ evsL (doB b o) r nm) ++ _
    rw [ih, List.append_assoc]
    rfl
theorem evsL_snoc (b : Bk) (l : List Od) (o : Od) (nm : List UInt8) : evsL b (l ++ [o]) nm = evsL b l nm ++ newEv (foldB b l) o nm := by
  rw [evsL_append]
  show _ ++ (newEv (foldB b l) o nm ++ []) = _
  rw [List.append_nil]
theorem newEv_len (b : Bk) (o : Od) (nm : List UInt8) : (newEv b o nm).length ≤ 1 := by
  unfold newEv evAt
  split
  · split <;> simp
  · simp
theorem evsL_len (b : Bk) (l : List Od) (nm : List UInt8) : (evsL b l nm).length ≤ l.length := by
  induction l generalizing b with
  | nil => exact Nat.le_refl _
  | cons o r ih =>
    show (newEv b o nm ++ evsL (doB b o) r nm).length ≤ r.length + 1
    rw [List.length_append]
    have h1 := newEv_len b o nm
    have h2 := ih (doB b o)
    omega

/-! ### accounts that are, and how they move -/
/-- the same accounts, each of which went as R says -/
def Mv (R : Ac → Ac → Prop) (S S' : List Ac) : Prop := ∀ nm, (getA S nm = none ∧ getA S' nm = none) ∨ ∃ a a', getA S nm = some a ∧ getA S' nm = some a' ∧ R a a'
section
variable {R Q T : Ac → Ac → Prop} {S S' S'' : List Ac}
theorem Mv.refl (h : ∀ a, R a a) (S : List Ac) : Mv R S S := fun nm => by
  cases e : getA S nm with
  | none => exact .inl ⟨rfl, rfl⟩
  | some a => exact .inr ⟨a, a, rfl, rfl, h a⟩
theorem Mv.trans (h : Mv R S S') (k : Mv Q S' S'') (ht : ∀ a b c, R a b → Q b c → T a c) : Mv T S S'' := fun nm => by
  rcases h nm with ⟨h1, h2⟩ | ⟨a, a', h1, h2, h3⟩
  · rcases k nm with ⟨k1, k2⟩ | ⟨b, b', k1, k2, k3⟩
    · exact .inl ⟨h1, k2⟩
    · rw [h2] at k1; cases k1
  · rcases k nm with ⟨k1, k2⟩ | ⟨b, b', k1, k2, k3⟩
    · rw [h2] at k1; cases k1
    · rw [h2] at k1
      injection k1 with k1
      subst k1
      exact .inr ⟨a, b', h1, k2, ht _ _ _ h3 k3⟩
theorem Mv.mono (h : Mv R S S') (hm : ∀ a b, R a b → Q a b) : Mv Q S S' := fun nm => by
  rcases h nm with h1 | ⟨a, a', h1, h2, h3⟩
  · exact .inl h1
  · exact .inr ⟨a, a', h1, h2, hm _ _ h3⟩
theorem Mv.some (h : Mv R S S') (nm : List UInt8) : (getA S' nm).isSome = (getA S nm).isSome := by
  rcases h nm with ⟨h1, h2⟩ | ⟨a, a', h1, h2, _⟩
  · rw [h1, h2]
  · rw [h1, h2]; rfl
theorem mv_act {f : Ac → Int} {g : Ac → Ac} (hr : ∀ a, R a a) (hg : ∀ a, (g a).name = a.name) (h : ∀ a, f a = 0 → R a (g a)) (S : List Ac) (nm : List UInt8) : Mv R S (actS f g S nm) := by
  intro k
  by_cases e : k = nm
  · subst e
    unfold actS
    cases ha : getA S k with
    | none =>
      exact .inl ⟨rfl, ha⟩
    | some a =>
      simp only
      have hn := (getA_some ha).2
      split
      · rename_i h0
        refine .inr ⟨a, g a, rfl, ?_, h a h0⟩
        have := getA_put_same S (g a)
        rw [hg a, hn] at this
        exact this
      · exact .inr ⟨a, a, rfl, ha, hr a⟩
  · rw [act_far hg S nm e]
    exact Mv.refl hr S k
end
def StEq (a b : Ac) : Prop := b.st = a.st
def HvEq (a b : Ac) : Prop := b.hv = a.hv
def HvSt (a b : Ac) : Prop := b.hv = a.hv ∧ b.st ≤ a.st
theorem mv_leg (S : List Ac) (g : Lg) : Mv StEq S (legS S g) := by
  unfold legS
  split
  · refine mv_act (R := StEq) (fun _ => rfl) (fun a => giveA_name a _) (fun a h => ?_) S _
    unfold StEq giveA
    rw [if_pos h]
  · exact Mv.refl (R := StEq) (fun _ => rfl) S
theorem mv_legs : ∀ (L : List Lg) (S : List Ac), Mv StEq S (legsS S L)
  | [], S => Mv.refl (R := StEq) (fun _ => rfl) S
  | g :: r, S => by
    unfold legsS
    split
    · exact (mv_leg S g).trans (mv_legs r _) (fun a b c h k => Eq.trans k h)
    · exact Mv.refl (R := StEq) (fun _ => rfl) S
theorem mv_make (S : List Ac) (L : List Lg) : Mv StEq S (makeS S L) := by
  unfold makeS
  split
  · exact mv_legs L S
  · exact Mv.refl (R := StEq) (fun _ => rfl) S
theorem mv_asd (S : List Ac) (nm : List UInt8) (x : Int) : Mv HvEq S (asdS S nm x) :=
  mv_act (R := HvEq) (fun _ => rfl) (fun a => asideA_name a _) (fun a h => by unfold HvEq asideA; rw [if_pos h]) S nm
theorem mv_asd_less (S : List Ac) (nm : List UInt8) (x : Int) (hx : x ≤ 0) : Mv HvSt S (asdS S nm x) :=
  mv_act (fun _ => ⟨rfl, Int.le_refl _⟩) (fun a => asideA_name a _) (fun a h => by
    unfold HvSt asideA
    rw [if_pos h]
    exact ⟨rfl, by show a.st + x ≤ a.st; omega⟩) S nm
theorem mv_put (S : List Ac) (H : List Hd) (n : Int) (a : List UInt8) (x : Int) : Mv HvEq S (putSS S H n a x) := by
  unfold putSS
  split
  · exact mv_asd _ _ _
  · exact Mv.refl (R := HvEq) (fun _ => rfl) S
theorem getH_pos {H : List Hd} (hp : PosH H) {a : List UInt8} {n : Int} {h : Hd} (hg : getH H a n = some h) : 0 < h.sum := by
  have hm : h ∈ H := by
    unfold getH at hg
    exact List.mem_of_find?_eq_some hg
  exact (hp h hm).2.2.1
theorem mv_free {S : List Ac} {H : List Hd} (hp : PosH H) (a : List UInt8) (n : Int) : Mv HvSt S (freeSS S H a n) := by
  unfold freeSS
  cases h : getH H a n with
  | none => exact Mv.refl (fun _ => ⟨rfl, Int.le_refl _⟩) S
  | some x =>
    have := getH_pos hp h
    exact mv_asd_less _ _ _ (by omega)
theorem mv_take {S : List Ac} {H : List Hd} (hp : PosH H) (a : ByteArray) (n : Int) (b : ByteArray) (x : Int) : Mv (fun a b => b.st ≤ a.st) S (takeSS S H a n b x) := by
  unfold takeSS
  split
  · rename_i h0
    refine (mv_asd_less S a.data.toList (-(sumO (getH H a.data.toList n))) ?_).trans (mv_make _ _) (fun a b c h k => ?_)
    · cases h : getH H a.data.toList n with
      | none => simp [sumO]
      | some y =>
        have := getH_pos hp h
        show -y.sum ≤ 0
        omega
    · have h2 := h.2
      have k2 : c.st = b.st := k
      omega
  · exact Mv.refl (fun _ => Int.le_refl _) S
/-- how an account goes by an order of a kind -/
def RK (kd : Int) (a b : Ac) : Prop := (kd ≠ 2 → kd ≠ 4 → b.hv = a.hv) ∧ (kd ≠ 3 → b.st ≤ a.st)
theorem RK.refl (kd : Int) (a : Ac) : RK kd a a := ⟨fun _ _ => rfl, fun _ => Int.le_refl _⟩
theorem mv_do {b : Bk} (hb : BkI b) {o : Od} (h1 : o.kd ≠ 1) : Mv (RK o.kd) b.S (doB b o).S := by
  unfold doB
  split
  · unfold effB
    rw [if_neg h1]
    by_cases k2 : o.kd = 2
    · rw [if_pos k2]
      split
      · exact Mv.refl (RK.refl _) _
      · exact (mv_make b.S o.legs).mono fun a c h => ⟨fun k _ => absurd k2 k, fun _ => by have : c.st = a.st := h; omega⟩
    rw [if_neg k2]
    by_cases k3 : o.kd = 3
    · rw [if_pos k3]
      exact (mv_put _ _ _ _ _).mono fun a c h => ⟨fun _ _ => h, fun k => absurd k3 k⟩
    rw [if_neg k3]
    by_cases k4 : o.kd = 4
    · rw [if_pos k4]
      split
      · exact Mv.refl (RK.refl _) _
      · exact (mv_take hb.st.pos _ _ _ _).mono fun a c h => ⟨fun _ k => absurd k4 k, fun _ => h⟩
    rw [if_neg k4]
    by_cases k5 : o.kd = 5
    · rw [if_pos k5]
      exact (mv_free hb.st.pos _ _).mono fun a c h => ⟨fun _ _ => h.1, fun _ => h.2⟩
    rw [if_neg k5]
    split
    · split
      · exact Mv.refl (RK.refl _) _
      · exact Mv.refl (RK.refl _) _
    · exact Mv.refl (RK.refl _) _
  · exact Mv.refl (RK.refl _) _

/-! ### which accounts an order touches -/
theorem touch_mem12 (o : Od) (s : List UInt8) : s ∈ touchL o ↔ s ∈ allN o o.legs.length ∧ s ≠ [] := by
  unfold touchL
  rw [(upOf_spec _).2 s]
  unfold namesO
  rw [List.mem_filter]
  constructor
  · rintro ⟨h1, h2⟩
    exact ⟨h1, by rintro rfl; simp at h2⟩
  · rintro ⟨h1, h2⟩
    refine ⟨h1, ?_⟩
    cases s with
    | nil => exact absurd rfl h2
    | cons => rfl
theorem touch_names {o : Od} (hr : rightO o = true) {s : List UInt8} (hs : s ∈ touchL o) : s ∈ names o ∧ o.kd ≠ 6 := by
  obtain ⟨hm, hne⟩ := (touch_mem12 o s).1 hs
  unfold allN at hm
  rw [List.take_length, List.mem_append, List.mem_cons, List.mem_cons] at hm
  unfold rightO at hr
  simp only [Bool.and_eq_true, decide_eq_true_eq] at hr
  obtain ⟨h1, h2, hid, ha, hp, hs2, hl, hper, hh, hn⟩ := hr
  have ean : o.kd = 2 ∨ o.kd = 6 → o.an = [] := fun k => by
    unfold acctB at ha
    rw [if_pos k] at ha
    simpa using ha
  have epn : o.kd ≠ 4 → o.pn = [] := fun k => by
    unfold peerB at hp
    rw [if_neg k] at hp
    simpa using hp
  have elg : o.kd ≠ 2 → o.legs = [] := fun k => by
    unfold legsB at hl
    rw [if_neg k] at hl
    simpa using hl
  unfold names
  by_cases k2 : o.kd = 2
  · rw [if_pos k2]
    refine ⟨?_, by omega⟩
    rcases hm with (h | h | h) | h
    · exact absurd (h.trans (ean (.inl k2))) hne
    · exact absurd (h.trans (epn (by omega))) hne
    · cases h
    · exact h
  · rw [if_neg k2]
    have hl0 := elg k2
    by_cases k4 : o.kd = 4
    · rw [if_pos k4]
      refine ⟨?_, by omega⟩
      rcases hm with (h | h | h) | h
      · rw [h]; exact List.mem_cons_self
      · rw [h]; exact List.mem_cons_of_mem _ List.mem_cons_self
      · cases h
      · rw [hl0] at h; cases h
    · rw [if_neg k4]
      have : s = o.an := by
        rcases hm with (h | h | h) | h
        · exact h
        · exact absurd (h.trans (epn k4)) hne
        · cases h
        · rw [hl0] at h; cases h
      subst this
      exact ⟨List.mem_cons_self, fun k6 => hne (ean (.inr k6))⟩
/-- an account that an order doesn't name stays -/
theorem do_far {b : Bk} {o : Od} {nm : List UInt8} (h : nm ∉ touchL o) : getA (doB b o).S nm = getA b.S nm := by
  unfold doB
  split
  · rename_i hr
    by_cases k6 : o.kd = 6
    · unfold effB
      rw [if_neg (by omega), if_neg (by omega), if_neg (by omega), if_neg (by omega), if_neg (by omega), if_pos k6]
      split <;> rfl
    · exact (eff_far k6 fun e => h (names_touch hr k6 nm e)).1
  · rfl
theorem about_err {S : List Ac} {nm : List UInt8} {e : Int} : (aboutR S nm e).err = 0 ↔ e = 0 ∧ (getA S nm).isSome = true := by
  unfold aboutR
  split
  · rename_i h
    constructor
    · intro h2
      simp only at h2
      refine ⟨h, ?_⟩
      split at h2
      · assumption
      · cases h2
    · intro h2
      simp only
      rw [if_pos h2.2]
  · rename_i h
    constructor
    · intro h2
      exact absurd h2 h
    · intro h2
      exact absurd h2.1 h
theorem asd_is {S : List Ac} {nm : List UInt8} {x : Int} (h : asdE S nm x = 0) : (getA S nm).isSome = true := by
  unfold asdE actE at h
  cases hg : getA S nm with
  | none => rw [hg] at h; cases h
  | some a => rfl
theorem asd_not {S : List Ac} {nm : List UInt8} {x : Int} (h : asdE S nm x ≠ 0) : asdS S nm x = S := by
  unfold asdE actE at h
  unfold asdS actS
  cases hg : getA S nm with
  | none => rfl
  | some a =>
    rw [hg] at h
    simp only at h ⊢
    rw [if_neg h]
theorem leg_is {S : List Ac} {g : Lg} (h : legE S g = 0) : (getA S g.nm).isSome = true := by
  unfold legE at h
  split at h
  · cases h
  · rename_i h2
    cases hg : getA S g.nm with
    | none => rw [hg] at h2; simp at h2
    | some a => rfl
theorem legs_is : ∀ (L : List Lg) (S : List Ac), legsE S L = 0 → ∀ g ∈ L, (getA S g.nm).isSome = true
  | [], _, _, g, hg => by cases hg
  | x :: r, S, h, g, hg => by
    unfold legsE at h
    split at h
    · rename_i h0
      rcases List.mem_cons.1 hg with rfl | hg
      · exact leg_is h0
      · rw [← (mv_leg S x).some g.nm]
        exact legs_is r _ h g hg
    · rename_i h0
      exact absurd h h0
theorem check_legs12 {S : List Ac} {L : List Lg} (h : checkE S L = 0) : legsE S L = 0 := by
  unfold checkE at h
  split at h
  · cases h
  · split at h
    · exact h
    · cases h
/-- an order that is told an error changes no account -/
theorem do_err {b : Bk} {o : Od} (h : (doR b o).err ≠ 0) (nm : List UInt8) : getA (doB b o).S nm = getA b.S nm := by
  unfold doR at h
  unfold doB
  split at h
  · rename_i hr
    rw [if_pos hr]
    unfold effR at h
    unfold effB
    by_cases k1 : o.kd = 1
    · rw [if_pos k1] at h ⊢
      show getA (openS b.S o.an o.sum) nm = _
      unfold openS
      split
      · rename_i h0
        refine absurd (about_err.2 ⟨h0, ?_⟩) h
        unfold openS
        rw [if_pos h0]
        have := getA_put_same b.S ⟨o.an, 0, 0, o.sum⟩
        rw [this]
        rfl
      · rfl
    rw [if_neg k1] at h ⊢
    by_cases k2 : o.kd = 2
    · rw [if_pos k2] at h ⊢
      split
      · rfl
      · rename_i hp
        rw [if_neg hp] at h
        show getA (makeS b.S o.legs) nm = _
        unfold makeS
        rw [if_neg (show ¬ checkE b.S o.legs = 0 from h)]
    rw [if_neg k2] at h ⊢
    by_cases k3 : o.kd = 3
    · rw [if_pos k3] at h ⊢
      show getA (putSS b.S b.H (numO o) o.an o.sum) nm = _
      unfold putSS
      split
      · rename_i h0
        exfalso
        apply h
        have ha : (aboutR (putSS b.S b.H (numO o) o.an o.sum) o.an (putE b.S b.H (numO o) o.an o.sum)).err = 0 := by
          refine about_err.2 ⟨h0, ?_⟩
          rw [(mv_put b.S b.H (numO o) o.an o.sum).some]
          unfold putE at h0
          split at h0
          · cases h0
          · split at h0
            · cases h0
            · split at h0
              · cases h0
              · exact asd_is h0
        unfold numR
        rw [if_pos ha]
        exact ha
      · rfl
    rw [if_neg k3] at h ⊢
    by_cases k4 : o.kd = 4
    · rw [if_pos k4] at h ⊢
      split
      · rfl
      · rename_i hp
        rw [if_neg hp] at h
        show getA (takeSS b.S b.H o.acct o.hold o.peer o.sum) nm = _
        unfold takeSS
        split
        · rename_i h0
          refine absurd (about_err.2 ⟨h0, ?_⟩) h
          unfold takeSS
          rw [if_pos h0, (mv_make _ _).some, (mv_asd _ _ _).some]
          unfold takeE at h0
          split at h0
          · cases h0
          · split at h0
            · cases h0
            · split at h0
              · rename_i h1
                exact asd_is h1
              · rename_i h1
                exact absurd h0 h1
        · rfl
    rw [if_neg k4] at h ⊢
    by_cases k5 : o.kd = 5
    · rw [if_pos k5] at h ⊢
      show getA (freeSS b.S b.H o.an o.hold) nm = _
      unfold freeSS
      cases hg : getH b.H o.an o.hold with
      | none => rfl
      | some x =>
        simp only
        by_cases h0 : asdE b.S o.an (-x.sum) = 0
        · refine absurd (about_err.2 ⟨?_, ?_⟩) h
          · unfold freeE
            rw [hg]
            exact h0
          · unfold freeSS
            rw [hg]
            simp only
            rw [(mv_asd _ _ _).some]
            exact asd_is h0
        · rw [asd_not h0]
    rw [if_neg k5]
    split
    · split <;> rfl
    · rfl
  · rename_i hr
    rw [if_neg hr]
/-- an order that is told no error: the accounts that it names are there -/
theorem do_ok {b : Bk} {o : Od} (h : (doR b o).err = 0) {nm : List UInt8} (hn : nm ∈ touchL o) : (getA (doB b o).S nm).isSome = true ∧ (o.kd = 1 → getA b.S nm = none) ∧ o.kd ≠ 6 := by
  unfold doR at h
  unfold doB
  split at h
  · rename_i hr
    rw [if_pos hr]
    obtain ⟨hnm, k6⟩ := touch_names hr hn
    refine ⟨?_, ?_, k6⟩
    · unfold effR at h
      unfold effB
      unfold names at hnm
      by_cases k1 : o.kd = 1
      · rw [if_pos k1] at h ⊢
        rw [if_neg (by omega), if_neg (by omega), List.mem_singleton] at hnm
        subst hnm
        exact (about_err.1 h).2
      rw [if_neg k1] at h ⊢
      by_cases k2 : o.kd = 2
      · rw [if_pos k2] at h hnm ⊢
        split
        · rename_i hp
          rw [if_pos hp] at h
          cases h
        · rename_i hp
          rw [if_neg hp] at h
          obtain ⟨g, hg, rfl⟩ := List.mem_map.1 hnm
          show (getA (makeS b.S o.legs) g.nm).isSome = true
          rw [(mv_make _ _).some]
          exact legs_is _ _ (check_legs12 h) g hg
      rw [if_neg k2] at h hnm ⊢
      by_cases k3 : o.kd = 3
      · rw [if_pos k3] at h ⊢
        rw [if_neg (by omega), List.mem_singleton] at hnm
        subst hnm
        unfold numR at h
        split at h
        · rename_i h0
          exact (about_err.1 h0).2
        · rename_i h0
          exact absurd h h0
      rw [if_neg k3] at h ⊢
      by_cases k4 : o.kd = 4
      · rw [if_pos k4] at h hnm ⊢
        split
        · rename_i hp
          rw [if_pos hp] at h
          cases h
        · rename_i hp
          rw [if_neg hp] at h
          obtain ⟨h0, h1⟩ := about_err.1 h
          rw [List.mem_cons, List.mem_singleton] at hnm
          rcases hnm with rfl | rfl
          · exact h1
          · show (getA (takeSS b.S b.H o.acct o.hold o.peer o.sum) o.pn).isSome = true
            unfold takeSS
            rw [if_pos h0, (mv_make _ _).some]
            unfold takeE at h0
            split at h0
            · cases h0
            · rename_i x hx
              split at h0
              · cases h0
              · split at h0
                · have h3 := legs_is _ _ (check_legs12 h0) ⟨o.peer, o.sum⟩ (by unfold legsT; simp)
                  rw [hx]
                  exact h3
                · rename_i h1
                  exact absurd h0 h1
      rw [if_neg k4] at h hnm ⊢
      rw [List.mem_singleton] at hnm
      subst hnm
      by_cases k5 : o.kd = 5
      · rw [if_pos k5] at h ⊢
        exact (about_err.1 h).2
      rw [if_neg k5, if_neg k6] at h ⊢
      exact (about_err.1 h).2
    · intro k1
      unfold effR at h
      unfold names at hnm
      rw [if_pos k1] at h
      rw [if_neg (by omega), if_neg (by omega), List.mem_singleton] at hnm
      subst hnm
      have h0 := (about_err.1 h).1
      unfold openE at h0
      split at h0
      · cases h0
      · split at h0
        · cases h0
        · rename_i h2
          cases hg : getA b.S o.an with
          | none => rfl
          | some a => rw [hg] at h2; exact absurd rfl h2
  · cases h
/-- what isn't there comes by an Open alone -/
theorem do_new {b : Bk} (hb : BkI b) {o : Od} {nm : List UInt8} (h : getA b.S nm = none) (k : (getA (doB b o).S nm).isSome = true) : o.kd = 1 ∧ (doR b o).err = 0 ∧ nm ∈ touchL o := by
  refine ⟨?_, ?_, ?_⟩
  · apply Classical.byContradiction
    intro h1
    rw [(mv_do hb h1).some, h] at k
    cases k
  · apply Classical.byContradiction
    intro h1
    rw [do_err h1, h] at k
    cases k
  · apply Classical.byContradiction
    intro h1
    rw [do_far h1, h] at k
    cases k

/-! ### an order more -/
theorem newEv_none {b : Bk} {o : Od} {nm : List UInt8} (h : ¬ ((doR b o).err = 0 ∧ nm ∈ touchL o)) : newEv b o nm = [] ∧ getA (doB b o).S nm = getA b.S nm := by
  refine ⟨if_neg h, ?_⟩
  by_cases h1 : (doR b o).err = 0
  · exact do_far fun e => h ⟨h1, e⟩
  · exact do_err h1 nm
theorem newEv_some {b : Bk} {o : Od} {nm : List UInt8} (h : (doR b o).err = 0 ∧ nm ∈ touchL o) : ∃ a, getA (doB b o).S nm = some a ∧ newEv b o nm = [⟨o.cl, o.sq, o.kd, a.hv, a.st⟩] := by
  obtain ⟨a, ha⟩ := Option.isSome_iff_exists.1 (do_ok h.1 h.2).1
  refine ⟨a, ha, ?_⟩
  unfold newEv evAt
  rw [if_pos h, ha]
/-- from an event to the next one -/
def EvGo (x y : Ev) : Prop := (y.hv ≠ x.hv → y.kd = 2 ∨ y.kd = 4) ∧ y.kd ≠ 1 ∧ y.kd ≠ 6 ∧ (x.st < y.st → y.kd = 3)
/-- what an account's events are like -/
structure EvIs (a : Ac) (E : List Ev) : Prop where
  pos : 0 < E.length
  hv : (E[E.length - 1]).hv = a.hv
  st : (E[E.length - 1]).st = a.st
  open_ : (E[0]).kd = 1
  go : ∀ k (h : k + 1 < E.length), EvGo E[k] E[k + 1]
def EvOf (S : List Ac) (nm : List UInt8) (E : List Ev) : Prop := match getA S nm with | none => E = [] | some a => EvIs a E
theorem evOf_do {b : Bk} (hb : BkI b) {o : Od} {nm : List UInt8} {E : List Ev} (h : EvOf b.S nm E) : EvOf (doB b o).S nm (E ++ newEv b o nm) := by
  unfold EvOf at h ⊢
  by_cases hc : (doR b o).err = 0 ∧ nm ∈ touchL o
  · obtain ⟨a', ha', hn⟩ := newEv_some hc
    rw [ha', hn]
    have hok := do_ok hc.1 hc.2
    cases hg : getA b.S nm with
    | none =>
      rw [hg] at h
      simp only at h ⊢
      subst h
      have h1 := do_new hb hg (by rw [ha']; rfl)
      exact ⟨by simp, rfl, rfl, h1.1, fun k hk => by simp at hk⟩
    | some a =>
      rw [hg] at h
      simp only at h ⊢
      have h1 : o.kd ≠ 1 := fun e => by rw [hok.2.1 e] at hg; cases hg
      rcases mv_do hb h1 nm with ⟨h2, _⟩ | ⟨x, y, h2, h3, h4⟩
      · rw [hg] at h2; cases h2
      rw [hg] at h2
      injection h2 with h2
      subst h2
      rw [ha'] at h3
      injection h3 with h3
      subst h3
      have hp := h.pos
      refine ⟨by simp, by simp, by simp, ?_, fun k hk => ?_⟩
      · have := h.open_
        simp only [List.getElem_append_left hp]
        exact this
      · simp only [List.length_append, List.length_singleton] at hk
        by_cases hl : k + 1 < E.length
        · simp only [List.getElem_append_left (show k < E.length by omega), List.getElem_append_left hl]
          exact h.go k hl
        · have e : k = E.length - 1 := by omega
          subst e
          have e2 : E.length - 1 + 1 = E.length := by omega
          simp only [List.getElem_append_left (show E.length - 1 < E.length by omega)]
          have hx : (E ++ [(⟨o.cl, o.sq, o.kd, a'.hv, a'.st⟩ : Ev)])[E.length - 1 + 1]'(by simp; omega) = ⟨o.cl, o.sq, o.kd, a'.hv, a'.st⟩ := by
            simp only [e2]
            simp
          rw [hx]
          have hv := h.hv
          have st := h.st
          refine ⟨fun hne => ?_, h1, hok.2.2, fun hlt => ?_⟩
          · simp only at hne ⊢
            apply Classical.byContradiction
            intro hk2
            rw [not_or] at hk2
            exact hne ((h4.1 hk2.1 hk2.2).trans hv.symm)
          · simp only at hlt ⊢
            apply Classical.byContradiction
            intro hk3
            have := h4.2 hk3
            omega
  · obtain ⟨h1, h2⟩ := newEv_none hc
    rw [h1, h2, List.append_nil]
    exact h
theorem evOf_fold : ∀ (l : List Od) {b : Bk} (hb : BkI b) (hok : ∀ o ∈ l, o.ok) {nm : List UInt8} {E : List Ev}, EvOf b.S nm E → EvOf (foldB b l).S nm (E ++ evsL b l nm)
  | [], b, _, _, nm, E, h => by
    show EvOf b.S nm (E ++ [])
    rw [List.append_nil]
    exact h
  | o :: r, b, hb, hok, nm, E, h => by
    have h1 := evOf_do (o := o) hb h
    have h2 := evOf_fold r (do_inv hb (hok o List.mem_cons_self)) (fun x hx => hok x (List.mem_cons_of_mem _ hx)) h1
    rw [List.append_assoc] at h2
    exact h2
theorem evOf_all {l : List Od} (hok : ∀ o ∈ l, o.ok) (nm : List UInt8) : EvOf (foldB bk0 l).S nm (evsL bk0 l nm) := by
  have h0 : EvOf bk0.S nm [] := by unfold EvOf bk0; rfl
  exact evOf_fold l bki0 hok h0

/-! ### lists that are alike -/
theorem newEv_eq {b c : Bk} {o : Od} {nm : List UInt8} (hr : doR b o = doR c o) (hS : getA (doB b o).S nm = getA (doB c o).S nm) : newEv b o nm = newEv c o nm := by
  unfold newEv evAt
  rw [hr, hS]
theorem newEv_far {b : Bk} {o : Od} {nm : List UInt8} (h : nm ∉ touchL o) : newEv b o nm = [] := if_neg fun e => h e.2
theorem ev_swap {b : Bk} (hb : BkI b) {o p : Od} (ho : o.ok) (hp : p.ok) (hc : clashB o p = false) (nm : List UInt8) : newEv b o nm ++ newEv (doB b o) p nm = newEv b p nm ++ newEv (doB b p) o nm := by
  obtain ⟨e1, e2, e3⟩ := do_swap hb ho hp hc
  have hm : ¬ (nm ∈ touchL o ∧ nm ∈ touchL p) := fun ⟨h1, h2⟩ => by
    unfold clashB at hc
    rw [Bool.or_eq_false_iff] at hc
    have := (meetL_iff _ _).2 ⟨nm, h1, h2⟩
    rw [hc.2] at this
    cases this
  by_cases h1 : nm ∈ touchL p
  · have h2 : nm ∉ touchL o := fun h => hm ⟨h, h1⟩
    rw [newEv_far h2, newEv_far h2, List.nil_append, List.append_nil]
    refine newEv_eq e2 ?_
    rw [e1, do_far h2]
  · rw [newEv_far h1, newEv_far h1, List.nil_append, List.append_nil]
    refine newEv_eq e3.symm ?_
    rw [← e1, do_far h1]
theorem evs_ahead {x : Od} (hx : x.ok) (q : List Od) (nm : List UInt8) : ∀ (p : List Od) {b : Bk}, BkI b → (∀ y ∈ p, y.ok ∧ clashB y x = false) → evsL b (p ++ x :: q) nm = evsL b (x :: (p ++ q)) nm
  | [], b, _, _ => rfl
  | y :: p, b, hb, h => by
    obtain ⟨hy, hc⟩ := h y List.mem_cons_self
    obtain ⟨e1, _, _⟩ := do_swap hb hy hx hc
    have hs := ev_swap hb hy hx hc nm
    have ih := evs_ahead hx q nm p (do_inv hb hy) fun z hz => h z (List.mem_cons_of_mem _ hz)
    show newEv b y nm ++ evsL (doB b y) (p ++ x :: q) nm = newEv b x nm ++ (newEv (doB b x) y nm ++ evsL (doB (doB b x) y) (p ++ q) nm)
    rw [ih]
    show newEv b y nm ++ (newEv (doB b y) x nm ++ evsL (doB (doB b y) x) (p ++ q) nm) = _
    rw [← List.append_assoc, hs, e1, List.append_assoc]
theorem evs_ak (nm : List UInt8) : ∀ (l m : List Od) {b : Bk}, BkI b → (∀ o ∈ l, o.ok) → Ak Od.id clashB l m → evsL b l nm = evsL b m nm
  | [], m, b, _, _, h => by
    have : m = [] := List.eq_nil_of_length_eq_zero h.1.symm
    subst this
    rfl
  | x :: l, m, b, hb, hok, h => by
    have hx := hok x List.mem_cons_self
    have hs := Ak.symm clashB_comm h
    obtain ⟨p, q, rfl⟩ := List.append_of_mem (h.2.2.2.1 x List.mem_cons_self)
    have hmok : ∀ y ∈ p ++ x :: q, y.ok := fun y hy => hok y (hs.2.2.2.1 y hy)
    have hpc : ∀ y ∈ p, y.ok ∧ clashB y x = false := fun y hy => by
      refine ⟨hmok y (List.mem_append_left _ hy), ?_⟩
      cases hc : clashB y x with
      | false => rfl
      | true =>
        have h1 := h.2.2.2.2 y x ((bef_append _ _ _ _).2 (.inr (.inl ⟨hy, List.mem_cons_self⟩))) hc List.mem_cons_self
        have h2 := (bef_mem h1).1
        have hnd := h.2.1.nodup
        rw [List.nodup_cons] at hnd
        have hyx : y = x := by
          rcases h1 with ⟨e, h3⟩ | h3
          · exact e.symm
          · exact absurd (bef_mem h3).2 hnd.1
        subst hyx
        have hnm := h.2.2.1.nodup
        rw [List.nodup_append] at hnm
        exact absurd rfl (hnm.2.2 y hy y List.mem_cons_self)
    have hak : Ak Od.id clashB l (p ++ q) := by
      have hl := h.1
      have r1 := h.2.1
      have r2 := h.2.2.1
      have n2 := r2.nodup
      have hperm : (p ++ x :: q).Perm (x :: (p ++ q)) := List.perm_middle
      have r3 := r2.perm hperm
      unfold Rt at r1 r3
      rw [List.map_cons, List.nodup_cons] at r1 r3
      have n3 := (hperm.nodup_iff).1 n2
      rw [List.nodup_cons] at n3
      have n1 := h.2.1.nodup
      rw [List.nodup_cons] at n1
      refine ⟨?_, r1.2, r3.2, fun o ho => ?_, fun u o hbf hc ho => ?_⟩
      · simp only [List.length_append, List.length_cons] at hl ⊢
        omega
      · have h1 := h.2.2.2.1 o (List.mem_cons_of_mem _ ho)
        have h2 := (hperm.mem_iff).1 h1
        rcases List.mem_cons.1 h2 with e | h3
        · exact absurd (e ▸ ho) n1.1
        · exact h3
      · have h1 : bef u o (p ++ x :: q) := by
          rw [bef_append] at hbf ⊢
          rcases hbf with h | ⟨h, h'⟩ | h
          · exact .inl h
          · exact .inr (.inl ⟨h, List.mem_cons_of_mem _ h'⟩)
          · exact .inr (.inr (.inr h))
        have h2 := h.2.2.2.2 u o h1 hc (List.mem_cons_of_mem _ ho)
        rcases h2 with ⟨e, _⟩ | h2
        · have h3 := (bef_mem hbf).1
          exact absurd (e ▸ h3) n3.1
        · exact h2
    rw [evs_ahead hx q nm p hb hpc]
    show newEv b x nm ++ evsL (doB b x) l nm = newEv b x nm ++ evsL (doB b x) (p ++ q) nm
    rw [evs_ak nm l (p ++ q) (do_inv hb hx) (fun o ho => hok o (List.mem_cons_of_mem _ ho)) hak]
end Go.Proofs.YtlanhclgbkhdlaaGreat
