/- Lists whose elements may change places where they do not clash: which lists are alike, begin one another, and meet. Of no program. Which lists begin one another, as the program reckons it, and as it is said. Of no walk. copies.All; which orders a list lacks: clash.without; clash.kept. clash.kept, with the closure of clash.without; clash.contains. clash.contains. -/
import Init
import Derived.Test.YtnphncemghfkbaaGreatQ05
import Derived.Test.YtnphncemghfkbaaGreatQ06
import Derived.Deep.RegionWith
namespace Go.My
set_option linter.unusedSimpArgs false
set_option linter.unusedVariables false
set_option linter.unusedSectionVars false

section
variable {α : Type} {κ : Type} [DecidableEq κ]

/-- x stands somewhere, and y behind it -/
def bef (x y : α) : List α → Prop
  | [] => False
  | z :: l => (z = x ∧ y ∈ l) ∨ bef x y l
theorem bef_nil (x y : α) : ¬ bef x y [] := fun h => h
theorem bef_cons (x y z : α) (l : List α) : bef x y (z :: l) ↔ (z = x ∧ y ∈ l) ∨ bef x y l := Iff.rfl
theorem bef_append (x y : α) (l r : List α) : bef x y (l ++ r) ↔ bef x y l ∨ (x ∈ l ∧ y ∈ r) ∨ bef x y r := by
  induction l with
  | nil => simp [bef]
  | cons z l ih =>
    rw [List.cons_append, bef_cons, bef_cons, ih, List.mem_append, List.mem_cons]
    constructor
    · rintro (⟨h, h1 | h1⟩ | h | h | h)
      · exact .inl (.inl ⟨h, h1⟩)
      · exact .inr (.inl ⟨.inl h.symm, h1⟩)
      · exact .inl (.inr h)
      · exact .inr (.inl ⟨.inr h.1, h.2⟩)
      · exact .inr (.inr h)
    · rintro ((h | h) | ⟨h | h, h1⟩ | h)
      · exact .inl ⟨h.1, .inl h.2⟩
      · exact .inr (.inl h)
      · exact .inl ⟨h.symm, .inr h1⟩
      · exact .inr (.inr (.inl ⟨h, h1⟩))
      · exact .inr (.inr (.inr h))
theorem bef_mem {x y : α} {l : List α} (h : bef x y l) : x ∈ l ∧ y ∈ l := by
  induction l with
  | nil => exact absurd h (bef_nil _ _)
  | cons z l ih =>
    rcases h with ⟨rfl, h⟩ | h
    · exact ⟨List.mem_cons_self, List.mem_cons_of_mem _ h⟩
    · exact ⟨List.mem_cons_of_mem _ (ih h).1, List.mem_cons_of_mem _ (ih h).2⟩
theorem bef_filter (x y : α) (p : α → Bool) (l : List α) : bef x y (l.filter p) ↔ bef x y l ∧ p x = true ∧ p y = true := by
  induction l with
  | nil => simp [bef]
  | cons z l ih =>
    rw [List.filter_cons]
    split
    · rename_i hz
      rw [bef_cons, bef_cons, ih, List.mem_filter]
      constructor
      · rintro (⟨rfl, h, hy⟩ | ⟨h, hx, hy⟩)
        · exact ⟨.inl ⟨rfl, h⟩, hz, hy⟩
        · exact ⟨.inr h, hx, hy⟩
      · rintro ⟨⟨rfl, h⟩ | h, hx, hy⟩
        · exact .inl ⟨rfl, h, hy⟩
        · exact .inr ⟨h, hx, hy⟩
    · rename_i hz
      rw [ih, bef_cons]
      constructor
      · rintro ⟨h, hx, hy⟩
        exact ⟨.inr h, hx, hy⟩
      · rintro ⟨⟨rfl, h⟩ | h, hx, hy⟩
        · exact absurd hx hz
        · exact ⟨h, hx, hy⟩
theorem bef_total {x y : α} {l : List α} (hx : x ∈ l) (hy : y ∈ l) (hne : x ≠ y) : bef x y l ∨ bef y x l := by
  induction l with
  | nil => cases hx
  | cons z l ih =>
    rw [bef_cons, bef_cons]
    rcases List.mem_cons.1 hx with e1 | h1
    · rcases List.mem_cons.1 hy with e2 | h2
      · exact absurd (e1.trans e2.symm) hne
      · exact .inl (.inl ⟨e1.symm, h2⟩)
    · rcases List.mem_cons.1 hy with e2 | h2
      · exact .inr (.inl ⟨e2.symm, h1⟩)
      · exact (ih h1 h2).imp .inr .inr
theorem bef_anti {x y : α} {l : List α} (hn : l.Nodup) (h : bef x y l) : ¬ bef y x l := by
  induction l with
  | nil => exact absurd h (bef_nil _ _)
  | cons z l ih =>
    rw [List.nodup_cons] at hn
    rcases h with ⟨rfl, h⟩ | h
    · rintro (⟨rfl, k⟩ | k)
      · exact hn.1 k
      · exact hn.1 (bef_mem k).2
    · rintro (⟨rfl, k⟩ | k)
      · exact hn.1 (bef_mem h).2
      · exact ih hn.2 h k
theorem bef_ne {x y : α} {l : List α} (hn : l.Nodup) (h : bef x y l) : x ≠ y := by
  rintro rfl
  exact bef_anti hn h h
/-- by places -/
theorem bef_iff_get (x y : α) (l : List α) : bef x y l ↔ ∃ j, ∃ hj : j < l.length, l[j] = y ∧ x ∈ l.take j := by
  induction l with
  | nil => simp [bef]
  | cons z l ih =>
    rw [bef_cons, ih]
    constructor
    · rintro (⟨rfl, h⟩ | ⟨j, hj, h, k⟩)
      · obtain ⟨j, hj, rfl⟩ := List.mem_iff_getElem.1 h
        exact ⟨j + 1, by simp only [List.length_cons]; omega, rfl, List.mem_cons_self⟩
      · exact ⟨j + 1, by simp only [List.length_cons]; omega, h, List.mem_cons_of_mem _ k⟩
    · rintro ⟨j, hj, h, k⟩
      cases j with
      | zero => simp at k
      | succ j =>
        rw [List.take_succ_cons, List.mem_cons] at k
        rcases k with rfl | k
        · exact .inl ⟨rfl, by rw [← h]; exact List.getElem_mem _⟩
        · exact .inr ⟨j, by simp only [List.length_cons] at hj; omega, h, k⟩

theorem nodup_len [DecidableEq α] {a : List α} : ∀ {b : List α}, a.Nodup → (∀ x ∈ a, x ∈ b) → a.length ≤ b.length ∧ (a.length = b.length → ∀ x ∈ b, x ∈ a) := by
  induction a with
  | nil => intro b _ _; exact ⟨Nat.zero_le _, fun e x hx => by have : b = [] := List.eq_nil_of_length_eq_zero e.symm; rw [this] at hx; exact hx⟩
  | cons z a ih =>
    intro b hn hs
    rw [List.nodup_cons] at hn
    have hz : z ∈ b := hs z List.mem_cons_self
    have h1 := ih (b := b.erase z) hn.2 fun x hx => by
      have hne : x ≠ z := by rintro rfl; exact hn.1 hx
      exact (List.mem_erase_of_ne hne).2 (hs x (List.mem_cons_of_mem _ hx))
    have hl := List.length_erase_of_mem hz
    have hp : 0 < b.length := List.length_pos_of_mem hz
    rw [List.length_cons]
    refine ⟨by omega, fun e x hx => ?_⟩
    by_cases hxz : x = z
    · exact hxz ▸ List.mem_cons_self
    · exact List.mem_cons_of_mem _ (h1.2 (by omega) x ((List.mem_erase_of_ne hxz).2 hx))

variable (idf : α → κ) (cl : α → α → Bool)

/-- no Id twice -/
def Rt (l : List α) : Prop := (l.map idf).Nodup
/-- something can be put behind a so that it is alike b -/
def Bg (a b : List α) : Prop := Rt idf a ∧ Rt idf b ∧ (∀ o ∈ a, o ∈ b) ∧ ∀ x o, bef x o b → cl x o = true → o ∈ a → bef x o a
def Ak (a b : List α) : Prop := a.length = b.length ∧ Bg idf cl a b
/-- those of b that are not in a -/
def others (a b : List α) : List α := b.filter fun o => decide (idf o ∉ a.map idf)
variable {idf cl}
theorem Rt.nodup {l : List α} (h : Rt idf l) : l.Nodup := by
  unfold Rt at h
  exact List.Pairwise.of_map (S := (· ≠ ·)) idf (fun a b hab e => hab (by rw [e])) h
theorem Rt.inj {l : List α} (h : Rt idf l) {x y : α} (hx : x ∈ l) (hy : y ∈ l) (e : idf x = idf y) : x = y := by
  induction l with
  | nil => cases hx
  | cons z l ih =>
    unfold Rt at h
    rw [List.map_cons, List.nodup_cons] at h
    rcases List.mem_cons.1 hx with e1 | h1
    · rcases List.mem_cons.1 hy with e2 | h2
      · exact e1.trans e2.symm
      · exact absurd (by rw [← e1, e]; exact List.mem_map_of_mem h2) h.1
    · rcases List.mem_cons.1 hy with e2 | h2
      · exact absurd (by rw [← e2, ← e]; exact List.mem_map_of_mem h1) h.1
      · exact ih h.2 h1 h2
theorem Rt.nil : Rt idf [] := List.nodup_nil
theorem Rt.filter {l : List α} (h : Rt idf l) (p : α → Bool) : Rt idf (l.filter p) := by
  unfold Rt at *
  exact (List.Sublist.map idf List.filter_sublist).nodup h
theorem Rt.take {l : List α} (h : Rt idf l) (k : Nat) : Rt idf (l.take k) := by
  unfold Rt at *
  exact (List.Sublist.map idf (List.take_sublist k l)).nodup h
theorem Rt.perm {l m : List α} (h : Rt idf l) (p : l.Perm m) : Rt idf m := (p.map idf).nodup_iff.1 h
theorem mem_others {a b : List α} {o : α} : o ∈ others idf a b ↔ o ∈ b ∧ idf o ∉ a.map idf := by
  unfold others
  rw [List.mem_filter]
  simp
theorem Rt.meet {a b : List α} (ha : Rt idf a) (hb : Rt idf b) : Rt idf (a ++ others idf a b) := by
  have h1 := hb.filter fun o => decide (idf o ∉ a.map idf)
  unfold Rt at *
  rw [List.map_append, List.nodup_append]
  refine ⟨ha, h1, fun x hx y hy e => ?_⟩
  subst e
  obtain ⟨o, ho, rfl⟩ := List.mem_map.1 hy
  exact (mem_others.1 ho).2 hx
theorem others_nil (b : List α) : others idf [] b = b := by
  unfold others
  rw [List.filter_eq_self]
  intro x _
  simp
theorem others_self (b : List α) : others idf b b = [] := by
  unfold others
  rw [List.filter_eq_nil_iff]
  intro x hx
  simp only [decide_not, Bool.not_eq_true', decide_eq_false_iff_not, Decidable.not_not]
  exact List.mem_map_of_mem hx
theorem others_take {a : List α} (h : Rt idf a) (k : Nat) : a.take k ++ others idf (a.take k) a = a := by
  have e := List.take_append_drop k a
  have : others idf (a.take k) a = a.drop k := by
    conv => lhs; rw [← e]
    unfold others
    rw [List.take_append_drop]
    have h2 : Rt idf (a.take k ++ a.drop k) := by rw [e]; exact h
    unfold Rt at h2
    rw [List.map_append, List.nodup_append] at h2
    conv => lhs; arg 2; rw [← e]
    rw [List.filter_append]
    have h3 : (a.take k).filter (fun o => decide (idf o ∉ (a.take k).map idf)) = [] := by
      rw [List.filter_eq_nil_iff]
      intro x hx
      simp only [decide_not, Bool.not_eq_true', decide_eq_false_iff_not, Decidable.not_not]
      exact List.mem_map_of_mem hx
    have h4 : (a.drop k).filter (fun o => decide (idf o ∉ (a.take k).map idf)) = a.drop k := by
      rw [List.filter_eq_self]
      intro x hx
      simp only [decide_eq_true_eq]
      intro hm
      exact h2.2.2 _ hm _ (List.mem_map_of_mem hx) rfl
    rw [h3, h4]
    rfl
  rw [this, e]
theorem Bg.refl {a : List α} (h : Rt idf a) : Bg idf cl a a := ⟨h, h, fun _ h => h, fun _ _ h _ _ => h⟩
theorem Bg.nil {b : List α} (h : Rt idf b) : Bg idf cl [] b := ⟨Rt.nil, h, fun _ k => absurd k List.not_mem_nil, fun _ _ _ _ k => absurd k List.not_mem_nil⟩
theorem Bg.trans {a b c : List α} (h : Bg idf cl a b) (k : Bg idf cl b c) : Bg idf cl a c :=
  ⟨h.1, k.2.1, fun o ho => k.2.2.1 o (h.2.2.1 o ho), fun x o hb hc ho => h.2.2.2 x o (k.2.2.2 x o hb hc (h.2.2.1 o ho)) hc ho⟩
theorem Bg.take {a : List α} (h : Rt idf a) (k : Nat) : Bg idf cl (a.take k) a := by
  refine ⟨h.take k, h, fun o ho => List.mem_of_mem_take ho, fun x o hb _ ho => ?_⟩
  have e := List.take_append_drop k a
  have hn : (a.take k ++ a.drop k).Nodup := by rw [e]; exact h.nodup
  rw [List.nodup_append] at hn
  rw [← e, bef_append] at hb
  rcases hb with hb | ⟨_, hb⟩ | hb
  · exact hb
  · exact absurd rfl (hn.2.2 _ ho _ hb)
  · exact absurd rfl (hn.2.2 _ ho _ (bef_mem hb).2)
theorem Bg.len_le {a b : List α} (h : Bg idf cl a b) : a.length ≤ b.length := by
  classical
  exact (nodup_len h.1.nodup h.2.2.1).1
theorem Ak.refl {a : List α} (h : Rt idf a) : Ak idf cl a a := ⟨rfl, Bg.refl h⟩
theorem Ak.trans {a b c : List α} (h : Ak idf cl a b) (k : Ak idf cl b c) : Ak idf cl a c := ⟨h.1.trans k.1, h.2.trans k.2⟩
theorem Ak.symm (hs : ∀ x y, cl x y = cl y x) {a b : List α} (h : Ak idf cl a b) : Ak idf cl b a := by
  classical
  have hsub := (nodup_len h.2.1.nodup h.2.2.2.1).2 h.1
  refine ⟨h.1.symm, h.2.2.1, h.2.1, hsub, fun x o hb hc ho => ?_⟩
  obtain ⟨hx, -⟩ := bef_mem hb
  have hne := bef_ne h.2.1.nodup hb
  rcases bef_total (h.2.2.2.1 x hx) ho hne with k | k
  · exact k
  · exact absurd (h.2.2.2.2 o x k (by rw [hs]; exact hc) hx) (bef_anti h.2.1.nodup hb)
/-- two neighbours that do not clash change places -/
theorem Ak.swap {p r : List α} {x y : α} (hs : ∀ x y, cl x y = cl y x) (h : Rt idf (p ++ x :: y :: r)) (hc : cl x y = false) : Ak idf cl (p ++ x :: y :: r) (p ++ y :: x :: r) := by
  have hp : (p ++ x :: y :: r).Perm (p ++ y :: x :: r) := List.Perm.append_left p (List.Perm.swap y x r)
  refine ⟨hp.length_eq, h, h.perm hp, fun o ho => (hp.mem_iff).1 ho, fun u o hb hu ho => ?_⟩
  rw [bef_append, bef_cons, bef_cons] at hb ⊢
  rcases hb with hb | ⟨h1, h2⟩ | ⟨rfl, h2⟩ | ⟨rfl, h2⟩ | hb
  · exact .inl hb
  · refine .inr (.inl ⟨h1, ?_⟩)
    simp only [List.mem_cons] at h2 ⊢
    rcases h2 with h2 | h2 | h2
    · exact .inr (.inl h2)
    · exact .inl h2
    · exact .inr (.inr h2)
  · rcases List.mem_cons.1 h2 with rfl | h2
    · rw [hs, hc] at hu
      cases hu
    · exact .inr (.inr (.inr (.inl ⟨rfl, h2⟩)))
  · exact .inr (.inr (.inl ⟨rfl, List.mem_cons_of_mem _ h2⟩))
  · exact .inr (.inr (.inr (.inr hb)))
/-- what is behind a beginning, put behind it, is alike the whole -/
theorem Bg.rest (hs : ∀ x y, cl x y = cl y x) {a m : List α} (h : Bg idf cl a m) : Ak idf cl (a ++ others idf a m) m := by
  classical
  have hr := h.1.meet h.2.1
  have hin : ∀ o ∈ m, o ∈ a ++ others idf a m := fun o ho => by
    by_cases hi : idf o ∈ a.map idf
    · obtain ⟨z, hz, e⟩ := List.mem_map.1 hi
      rw [h.2.1.inj ho (h.2.2.1 z hz) e.symm]
      exact List.mem_append_left _ hz
    · exact List.mem_append_right _ (mem_others.2 ⟨ho, hi⟩)
  have hout : ∀ o ∈ a ++ others idf a m, o ∈ m := fun o ho => by
    rcases List.mem_append.1 ho with ho | ho
    · exact h.2.2.1 o ho
    · exact (mem_others.1 ho).1
  refine ⟨?_, hr, h.2.1, hout, fun x o hb hc ho => ?_⟩
  · have h1 := (nodup_len hr.nodup hout).1
    have h2 := (nodup_len h.2.1.nodup hin).1
    omega
  · rw [bef_append]
    rcases List.mem_append.1 ho with ho | ho
    · exact .inl (h.2.2.2 x o hb hc ho)
    · have hx := hin x (bef_mem hb).1
      rcases List.mem_append.1 hx with hx | hx
      · exact .inr (.inl ⟨hx, ho⟩)
      · refine .inr (.inr ?_)
        unfold others at hx ho ⊢
        exact (bef_filter _ _ _ _).2 ⟨hb, (List.mem_filter.1 hx).2, (List.mem_filter.1 ho).2⟩
theorem Bg.meet_left {a b : List α} (ha : Rt idf a) (hb : Rt idf b) : Bg idf cl a (a ++ others idf a b) := by
  have hr := ha.meet hb
  have := Bg.take (cl := cl) hr a.length
  rw [List.take_left] at this
  exact this
/-- two beginnings of one list meet, in a beginning of it -/
theorem Bg.meet (hs : ∀ x y, cl x y = cl y x) {a b c : List α} (ha : Bg idf cl a c) (hb : Bg idf cl b c) : Bg idf cl b (a ++ others idf a b) ∧ Bg idf cl (a ++ others idf a b) c := by
  have hr := ha.1.meet hb.1
  have key : ∀ o ∈ b, idf o ∈ a.map idf → o ∈ a := fun o ho hi => by
    obtain ⟨z, hz, e⟩ := List.mem_map.1 hi
    rw [ha.2.1.inj (hb.2.2.1 o ho) (ha.2.2.1 z hz) e.symm]
    exact hz
  have hout : ∀ o ∈ a ++ others idf a b, o ∈ c := fun o ho => by
    rcases List.mem_append.1 ho with ho | ho
    · exact ha.2.2.1 o ho
    · exact hb.2.2.1 o (mem_others.1 ho).1
  refine ⟨⟨hb.1, hr, fun o ho => ?_, fun x o hbf hc ho => ?_⟩, hr, ha.2.1, hout, fun x o hbf hc ho => ?_⟩
  · by_cases hi : idf o ∈ a.map idf
    · exact List.mem_append_left _ (key o ho hi)
    · exact List.mem_append_right _ (mem_others.2 ⟨ho, hi⟩)
  · -- x is ahead of o in c, too
    rw [bef_append] at hbf
    rcases hbf with hbf | ⟨hx, ho2⟩ | hbf
    · have hxa := (bef_mem hbf).1
      have hoa := (bef_mem hbf).2
      have hne := bef_ne ha.1.nodup hbf
      rcases bef_total (ha.2.2.1 x hxa) (ha.2.2.1 o hoa) hne with k | k
      · exact hb.2.2.2 x o k hc ho
      · exact absurd (ha.2.2.2 o x k (by rw [hs]; exact hc) hxa) (bef_anti ha.1.nodup hbf)
    · have hne : x ≠ o := by
        rintro rfl
        exact (mem_others.1 ho2).2 (List.mem_map_of_mem hx)
      rcases bef_total (ha.2.2.1 x hx) (hb.2.2.1 o ho) hne with k | k
      · exact hb.2.2.2 x o k hc ho
      · exact absurd (ha.2.2.2 o x k (by rw [hs]; exact hc) hx) (fun hh => (mem_others.1 ho2).2 (List.mem_map_of_mem (bef_mem hh).1))
    · unfold others at hbf
      exact ((bef_filter _ _ _ _).1 hbf).1
  · rw [bef_append]
    by_cases hoa : o ∈ a
    · exact .inl (ha.2.2.2 x o hbf hc hoa)
    · have ho2 : o ∈ others idf a b := (List.mem_append.1 ho).resolve_left hoa
      have hbb := hb.2.2.2 x o hbf hc (mem_others.1 ho2).1
      by_cases hxa : x ∈ a
      · exact .inr (.inl ⟨hxa, ho2⟩)
      · refine .inr (.inr ?_)
        unfold others
        exact (bef_filter _ _ _ _).2 ⟨hbb, by simpa using fun z hz e => hxa (key x (bef_mem hbb).1 (by rw [← e]; exact List.mem_map_of_mem hz)), by simpa using (mem_others.1 ho2).2⟩
end
end Go.My

namespace Go.Proofs.YtnphncemghfkbaaGreat
open Go.RowKit Go.My Go.Maps
set_option linter.unusedSimpArgs false
set_option linter.unusedVariables false

theorem nodup_inj {α : Type} {L : List α} (hn : L.Nodup) {i j : Nat} (hi : i < L.length) (hj : j < L.length) (e : L[i] = L[j]) : i = j := by
  have h := List.pairwise_iff_getElem.1 hn
  rcases Nat.lt_trichotomy i j with k | k | k
  · exact absurd e (h i j hi hj k)
  · exact k
  · exact absurd e.symm (h j i hj hi k)
theorem posF_of {L : List Idk} (hn : L.Nodup) {i : Nat} {k : Idk} (h : L[i]? = some k) : posF L k = some i := by
  have hm : k ∈ L := List.mem_of_getElem? h
  have hs := posF_isSome L k
  rw [decide_eq_true hm] at hs
  obtain ⟨j, hj⟩ := Option.isSome_iff_exists.1 hs
  obtain ⟨hl, he⟩ := posF_some hj
  rw [hj]
  obtain ⟨hi, h⟩ := List.getElem?_eq_some_iff.1 h
  obtain ⟨hl', he⟩ := List.getElem?_eq_some_iff.1 he
  have := nodup_inj hn hl' hi (he.trans h.symm)
  rw [this]
theorem posF_none {L : List Idk} {k : Idk} : posF L k = none ↔ k ∉ L := by
  have := posF_isSome L k
  cases h : posF L k with
  | none => rw [h] at this; simpa using this
  | some i => rw [h] at this; simp at this; simpa using this
theorem rightL_iff (l : List Od) : rightL l = true ↔ Rt Od.id l := by
  unfold rightL Rt idsO
  rw [decide_eq_true_iff]
theorem idsO_length (l : List Od) : (idsO l).length = l.length := by unfold idsO; rw [List.length_map]
theorem idsO_get (l : List Od) (i : Nat) : (idsO l)[i]? = (l[i]?).map Od.id := by unfold idsO; rw [List.getElem?_map]

/-- an order stands in b, where its Id stands last -/
def hasB (b : List Od) (o : Od) : Bool := match posF (idsO b) o.id with
  | some i => (b[i]?).any fun x => eqO x o
  | none => false
def containsB (b a : List Od) : Bool := a.all (hasB b)
theorem hasB_mem {b : List Od} {o : Od} (h : hasB b o = true) : o ∈ b := by
  unfold hasB at h
  split at h
  · rename_i i hi
    cases hx : b[i]? with
    | none => rw [hx] at h; cases h
    | some x =>
      rw [hx] at h
      have : x = o := (eqO_iff _ _).1 h
      exact this ▸ List.mem_of_getElem? hx
  · cases h
theorem hasB_of {b : List Od} (hb : Rt Od.id b) {o : Od} (h : o ∈ b) : hasB b o = true := by
  obtain ⟨i, hi, rfl⟩ := List.mem_iff_getElem.1 h
  have e : (idsO b)[i]? = some b[i].id := by rw [idsO_get, List.getElem?_eq_getElem hi]; rfl
  unfold hasB
  rw [posF_of (L := idsO b) hb e]
  simp only
  rw [List.getElem?_eq_getElem hi]
  exact (eqO_iff _ _).2 rfl
theorem containsB_iff {b a : List Od} (hb : Rt Od.id b) : containsB b a = true ↔ ∀ o ∈ a, o ∈ b := by
  unfold containsB
  rw [List.all_eq_true]
  exact ⟨fun h o ho => hasB_mem (h o ho), fun h o ho => hasB_of hb (h o ho)⟩

/-- x may not stand ahead of o -/
def badB (a : List Od) (o x : Od) : Bool := clashB x o && (!(decide (x.id ∈ idsO a)) || decide (posO (posF (idsO a) o.id) < posO (posF (idsO a) x.id)))
/-- nothing that may not stands ahead of o -/
def okAt (a pre : List Od) (o : Od) : Bool := !(decide (o.id ∈ idsO a) && pre.any (badB a o))
def begB (a b : List Od) : Bool := (List.range b.length).all fun j => (b[j]?).all fun o => okAt a (b.take j) o
def beginsB (a b : List Od) : Bool := rightL a && rightL b && containsB b a && begB a b
theorem pos_lt {a : List Od} (ha : Rt Od.id a) {x o : Od} (hx : x ∈ a) (ho : o ∈ a) : posO (posF (idsO a) x.id) < posO (posF (idsO a) o.id) ↔ bef x o a := by
  obtain ⟨i, hi, rfl⟩ := List.mem_iff_getElem.1 hx
  obtain ⟨j, hj, rfl⟩ := List.mem_iff_getElem.1 ho
  have e : ∀ i (hi : i < a.length), posF (idsO a) a[i].id = some i := fun i hi => posF_of (L := idsO a) ha (by rw [idsO_get, List.getElem?_eq_getElem hi]; rfl)
  rw [e i hi, e j hj]
  unfold posO
  simp only
  rw [bef_iff_get]
  constructor
  · intro h
    exact ⟨j, hj, rfl, List.mem_take_iff_getElem.2 ⟨i, by omega, rfl⟩⟩
  · rintro ⟨k, hk, h1, h2⟩
    obtain ⟨m, hm, h3⟩ := List.mem_take_iff_getElem.1 h2
    have k1 := nodup_inj ha.nodup hk hj h1
    have k2 := nodup_inj ha.nodup (by omega) hi h3
    omega
theorem beginsB_iff (a b : List Od) : beginsB a b = true ↔ Bg Od.id clashB a b := by
  unfold beginsB Bg
  rw [Bool.and_eq_true, Bool.and_eq_true, Bool.and_eq_true, rightL_iff, rightL_iff]
  constructor
  · rintro ⟨⟨⟨ha, hb⟩, hc⟩, hg⟩
    have hc := (containsB_iff hb).1 hc
    refine ⟨ha, hb, hc, fun x o hbf hcl ho => ?_⟩
    unfold begB at hg
    rw [List.all_eq_true] at hg
    obtain ⟨j, hj, rfl, hx⟩ := (bef_iff_get x o b).1 hbf
    have h1 := hg j (List.mem_range.2 hj)
    rw [List.getElem?_eq_getElem hj] at h1
    have h1 : okAt a (b.take j) b[j] = true := h1
    unfold okAt at h1
    have hid : b[j].id ∈ idsO a := List.mem_map_of_mem ho
    rw [decide_eq_true hid, Bool.true_and, Bool.not_eq_true', List.any_eq_false] at h1
    have h2 := h1 x hx
    unfold badB at h2
    rw [hcl, Bool.true_and] at h2
    simp only [Bool.or_eq_true, Bool.not_eq_true', decide_eq_false_iff_not, decide_eq_true_eq, not_or, Decidable.not_not] at h2
    obtain ⟨h3, h4⟩ := h2
    obtain ⟨z, hz, e⟩ := List.mem_map.1 h3
    have hxa : x ∈ a := by
      rw [hb.inj (bef_mem hbf).1 (hc z hz) e.symm]
      exact hz
    rcases bef_total hxa ho (bef_ne hb.nodup hbf) with k | k
    · exact k
    · exact absurd ((pos_lt ha ho hxa).2 k) h4
  · rintro ⟨ha, hb, hc, hg⟩
    refine ⟨⟨⟨ha, hb⟩, (containsB_iff hb).2 hc⟩, ?_⟩
    unfold begB
    rw [List.all_eq_true]
    intro j hj
    have hj := List.mem_range.1 hj
    rw [List.getElem?_eq_getElem hj]
    show okAt a (b.take j) b[j] = true
    unfold okAt
    by_cases hid : b[j].id ∈ idsO a
    · rw [decide_eq_true hid, Bool.true_and, Bool.not_eq_true', List.any_eq_false]
      intro x hx
      have hbf := (bef_iff_get x b[j] b).2 ⟨j, hj, rfl, hx⟩
      obtain ⟨z, hz, e⟩ := List.mem_map.1 hid
      have hoa : b[j] ∈ a := by
        rw [hb.inj (List.getElem_mem hj) (hc z hz) e.symm]
        exact hz
      unfold badB
      cases hcl : clashB x b[j] with
      | false => simp
      | true =>
        have k := hg x b[j] hbf hcl hoa
        have hxi : x.id ∈ idsO a := List.mem_map_of_mem (bef_mem k).1
        rw [decide_eq_true hxi]
        simp only [Bool.not_true, Bool.false_or, Bool.true_and, decide_eq_true_eq]
        intro h
        exact bef_anti ha.nodup k ((pos_lt ha hoa (bef_mem k).1).1 h)
    · rw [decide_eq_false hid]
      rfl
def alikeB (a b : List Od) : Bool := decide (a.length = b.length) && beginsB a b
theorem alikeB_iff (a b : List Od) : alikeB a b = true ↔ Ak Od.id clashB a b := by
  unfold alikeB Ak
  rw [Bool.and_eq_true, decide_eq_true_iff, beginsB_iff]
/-- those that are not in a -/
def outO (a b : List Od) : List Od := others Od.id a b
theorem outO_eq (a b : List Od) : outO a b = b.filter fun o => !(posF (idsO a) o.id).isSome := by
  unfold outO others
  congr 1
  funext o
  rw [posF_isSome, Bool.eq_iff_iff]
  unfold idsO
  simp only [decide_eq_true_eq, Bool.not_eq_true', decide_eq_false_iff_not]
def restO (a b : List Od) : List Od := if beginsB a b then outO a b else []
/-- where two lists meet -/
def meetO (a b : List Od) : List Od := a ++ outO a b
def meetB (a b : List Od) : Bool := beginsB a (meetO a b) && beginsB b (meetO a b)
def retMeet (a b : List Od) : List Od := if meetB a b then meetO a b else []
/-- neighbours that change places -/
def swapO (l : List Od) (i : Nat) : Option (List Od) := match l[i]?, l[i + 1]? with
  | some x, some y => if clashB x y then none else some ((l.set i y).set (i + 1) x)
  | _, _ => none
theorem set_two (l : List Od) (i : Nat) (h : i + 1 < l.length) (x y : Od) : (l.set i x).set (i + 1) y = l.take i ++ x :: y :: l.drop (i + 2) := by
  apply List.ext_getElem?
  intro k
  rw [List.getElem?_set, List.getElem?_set]
  simp only [List.length_set, List.getElem?_append, List.length_take, List.getElem?_cons, List.getElem?_drop, List.getElem?_take]
  have hmn : min i l.length = i := by omega
  rw [hmn]
  by_cases h1 : k < i
  · rw [if_neg (by omega), if_neg (by omega), if_pos h1, if_pos h1]
  · rw [if_neg h1]
    by_cases h2 : i = k
    · subst h2
      rw [if_neg (by omega), if_pos rfl, if_pos (by omega), if_pos (by omega)]
    · by_cases h3 : i + 1 = k
      · subst h3
        rw [if_pos rfl, if_pos (by omega), if_neg (by omega), if_pos (by omega)]
      · rw [if_neg h3, if_neg h2, if_neg (by omega), if_neg (by omega)]
        congr 1
        omega
theorem swap_form {l m : List Od} {i : Nat} (h : swapO l i = some m) : ∃ p x y r, l = p ++ x :: y :: r ∧ m = p ++ y :: x :: r ∧ clashB x y = false ∧ p.length = i := by
  unfold swapO at h
  split at h
  · rename_i x y hx hy
    obtain ⟨hi, rfl⟩ := List.getElem?_eq_some_iff.1 hx
    obtain ⟨hj, rfl⟩ := List.getElem?_eq_some_iff.1 hy
    split at h
    · cases h
    · rename_i hc
      simp only [Option.some.injEq] at h
      subst h
      refine ⟨l.take i, l[i], l[i + 1], l.drop (i + 2), ?_, set_two l i hj _ _, by simpa using hc, by rw [List.length_take]; omega⟩
      rw [← List.drop_eq_getElem_cons, ← List.drop_eq_getElem_cons, List.take_append_drop]
  · cases h
theorem swap_ak {l m : List Od} {i : Nat} (hl : Rt Od.id l) (h : swapO l i = some m) : Ak Od.id clashB l m := by
  obtain ⟨p, x, y, r, rfl, rfl, hc, _⟩ := swap_form h
  exact Ak.swap clashB_comm hl hc
end Go.Proofs.YtnphncemghfkbaaGreat

namespace Go.Proofs.YtnphncemghfkbaaGreat
open Go.RowKit Go.My Go.Maps Go.WideMaps
set_option linter.unusedSimpArgs false
set_option linter.unusedVariables false
attribute [local go_sem ↓] Go.wp_at_zero Go.wp_at_succ

def OdRF (w : World) (F : Nat → Prop) (cs : List Value) (o : Od) : Prop := ∃ v, cs = o.cs v ∧ o.ok ∧ (∀ g ∈ o.legs, g.ok) ∧ LgS w F v o.legs
/-- a row of the call's own that holds orders whose legs are new since B, and lie apart from it -/
def OwnN (B : Nat) (w : World) (v : Value) (l : List Od) : Prop := ∃ cells, Own w 47 10 v l.length cells ∧ Each (OdRF w (New B w v.ownBlock)) 10 cells l
theorem each_imp {α : Type} {R R' : List Value → α → Prop} {n : Nat} {cells : List Value} {L : List α} (h : Each R n cells L) (hi : ∀ cs x, R cs x → R' cs x) : Each R' n cells L := ⟨h.1, fun i x hx => hi _ _ (h.2 i x hx)⟩
theorem each_snoc {R : List Value → Od → Prop} {n : Nat} {cells cs : List Value} {l : List Od} (h : Each R n cells l) {o : Od} (hn : 0 < n) (hl : cs.length = n) (ho : R cs o) : Each R n (cells ++ cs) (l ++ [o]) := by
  refine ⟨by rw [List.length_append, hl, h.1, List.length_append, List.length_singleton, Nat.add_mul]; omega, fun i x hx => ?_⟩
  by_cases hi : i < l.length
  · rw [List.getElem?_append_left hi] at hx
    have h1 := h.2 i x hx
    have h2 : i * n + n ≤ cells.length := by rw [h.1]; have := Nat.mul_le_mul_right n (show i + 1 ≤ l.length from hi); rw [Nat.add_mul] at this; omega
    rw [List.drop_append_of_le_length (by omega), List.take_append_of_le_length (by rw [List.length_drop]; omega)]
    exact h1
  · rw [List.getElem?_append_right (by omega)] at hx
    have hi0 : i - l.length = 0 := by
      rcases Nat.eq_zero_or_pos (i - l.length) with h0 | h0
      · exact h0
      · rw [List.getElem?_eq_none (by rw [List.length_singleton]; omega)] at hx; cases hx
    rw [hi0] at hx
    simp only [List.getElem?_cons_zero, Option.some.injEq] at hx
    subst hx
    have : i = l.length := by omega
    subst this
    rw [← h.1, List.drop_left, List.take_of_length_le (by omega)]
    exact ho
theorem OdRF.r {w : World} {F : Nat → Prop} (hF : ∀ k, F k → k < w.heap.size) {cs : List Value} {o : Od} (h : OdRF w F cs o) : OdR w cs o := by
  obtain ⟨v, h1, h2, h3, h4⟩ := h
  exact ⟨v, h1, h2, h3, h4.more hF⟩
theorem OwnN.nil (B : Nat) (w : World) : OwnN B w (.slice none 0 0) [] := ⟨[], Own.nil _ _ _, ⟨rfl, fun i x hx => by simp at hx⟩⟩
theorem OwnN.form {B : Nat} {w : World} {v : Value} {l : List Od} (h : OwnN B w v l) : ∃ A c, v = .slice A l.length c ∧ l.length ≤ c ∧ c ≤ maxLen := by
  obtain ⟨cells, ho, _⟩ := h
  exact ho.form
theorem OwnN.lt {B : Nat} {w : World} {v : Value} {l : List Od} (h : OwnN B w v l) : ∀ k, v.ownBlock = some k → k < w.heap.size := by
  obtain ⟨cells, ho, _⟩ := h
  exact ho.lt
theorem OwnN.no {B : Nat} {w w' : World} {v : Value} {l : List Od} (h : OwnN B w v l) (hf : Fr No w w') : OwnN B w' v l := by
  obtain ⟨cells, ho, hE⟩ := h
  refine ⟨cells, ho.fr hf (fun _ _ h => h), each_imp hE fun cs o ⟨v, h1, h2, h3, h4⟩ => ⟨v, h1, h2, h3, (h4.no hf).more fun k hk => ⟨hk.1, Nat.lt_of_lt_of_le hk.2.1 hf.size, hk.2.2⟩⟩⟩
theorem OwnN.ods {B : Nat} {w : World} {A : Option Addr} {m c : Nat} {l : List Od} (h : OwnN B w (.slice A m c) l) : OdsS w w (fun k => (Value.slice A m c).ownBlock = some k) A l := by
  obtain ⟨cells, ho, hE⟩ := h
  exact ⟨cells, ho.rd, each_imp hE fun cs o h => h.r fun k hk => hk.2.1⟩
/-- orders as they lie now -/
theorem OdsS.now {w w' : World} {F : Nat → Prop} {A : Option Addr} {l : List Od} (h : OdsS w w F A l) (hf : Fr No w w') : OdsS w' w' F A l := by
  obtain ⟨cells, hr, hE⟩ := h
  exact ⟨cells, hr.fr (by omega) hf (fun _ _ _ h => h), each_imp hE fun cs o ⟨v, h1, h2, h3, h4⟩ => ⟨v, h1, h2, h3, (h4.no hf).more fun k hk => Nat.lt_of_lt_of_le hk hf.size⟩⟩
theorem eachN_put {B : Nat} {w wa w1 w2 w3 : World} {g g1 : Option Nat} {cells : List Value} {l : List Od} {o : Od} {v : Value} (hB : B ≤ wa.heap.size) (hE : Each (OdRF w (New B w g)) 10 cells l) (hg : ∀ k, g = some k → k < w.heap.size)
    (h1 : Fr No w wa) (h2 : Fr No wa w1) (hL : LgS w1 (New wa.heap.size w1 none) v o.legs) (h3 : Fr No w1 w2) (h4 : Fr (AtO g) w2 w3) (hn : g1 = g ∨ g1 = some w2.heap.size) (hok : o.ok) (hgs : ∀ g ∈ o.legs, g.ok) :
    Each (OdRF w3 (New B w3 g1)) 10 (cells ++ o.cs v) (l ++ [o]) := by
  have s1 := h1.size
  have s2 := h2.size
  have s3 := h3.size
  have s4 := h4.size
  have e1 : ∀ k, New B w g k → New B w3 g1 k := fun k hk => by
    obtain ⟨k1, k2, k3⟩ := hk
    refine ⟨k1, by omega, fun e => ?_⟩
    rcases hn with rfl | rfl
    · exact k3 e
    · simp only [Option.some.injEq] at e
      omega
  have e2 : ∀ k, New wa.heap.size w1 none k → New B w3 g1 k := fun k hk => by
    obtain ⟨k1, k2, k3⟩ := hk
    refine ⟨by omega, by omega, fun e => ?_⟩
    rcases hn with rfl | rfl
    · have := hg k e
      omega
    · simp only [Option.some.injEq] at e
      omega
  have hE1 : Each (OdRF w3 (New B w3 g1)) 10 cells l := each_imp hE fun cs o ⟨v, k1, k2, k3, k4⟩ => ⟨v, k1, k2, k3, ((k4.no ((h1.trans h2).trans h3)).frS h4 fun k hk _ e => hk.2.2 e).more e1⟩
  refine each_snoc hE1 (by omega) rfl ⟨v, rfl, hok, hgs, ((hL.no h3).frS h4 fun k hk _ e => ?_).more e2⟩
  have := hg k e
  have := hk.1
  omega
/-- handed back: orders of the call's own -/
def RetN (w : World) (l : List Od) (e : Ending) (w' : World) : Prop := ∃ A c, e = .returned (.slice A l.length c) ∧ OwnN w.heap.size w' (.slice A l.length c) l ∧ Fr No w w' ∧ ∀ k, (Value.slice A l.length c).ownBlock = some k → w.heap.size ≤ k
def CpRel (w : World) (l : List Od) (lv iv : Value) (wr : World) : Prop := ∃ k : Nat, k ≤ l.length ∧ iv = .int .i64 k ∧ OwnN w.heap.size wr lv (l.take k) ∧ Fr No w wr ∧ Newer w.heap.size none lv.ownBlock
set_option maxRecDepth 100000 in
set_option maxHeartbeats 1000000 in
theorem copyAll_any (w : World) (F : Nat → Prop) (A : Option Addr) (c : Nat) (l : List Od) (hl : OdsS w w F A l) (hn : l.length ≤ 1000000) (hs : ∀ o ∈ l, o.legs.length ≤ 100000) :
    Calls Tryz.prog 45 #[.slice A l.length c, .func (.func 39) #[] #[]] w (RetN w l) := by
  have HL := Lib.hid hl
  have HS := Lib.hid hs
  have hen : ∀ args W, (callFunc 39 args).run Tryz.prog W = .ok (.enter 39 args) W := enters_of Tryz.func39 (by kernel_rfl) rfl
  clear hl hs
  go_enter Tryz.func45, Tryz.ntmps45
  go_wp2
  go_loopw [5, 10] (fun lv iv wr => CpRel w l lv iv wr) (fun _ iv _ => l.length - (intOf iv).toNat)
  case atStart => exact ⟨0, Nat.zero_le _, rfl, OwnN.nil _ _, Fr.refl _ _, .inl rfl⟩
  case round =>
    obtain ⟨k, hk, rfl, hown, hfr, hnew⟩ := hrel
    have hk62 : (k : Int) ≤ 1000000 := by omega
    by_cases hlt : k < l.length
    · obtain ⟨ad, v, rfl, _, hok, hg, hL, q0, q1, q2, q3, q4, q5, q6, q7, q8, q9⟩ := (HL.out.fr hfr (fun _ _ _ h => h)).at_ k hlt
      obtain ⟨B, d, rfl, hd1, hd2⟩ := hL.form
      have HTK : Hid (l.take (k + 1) = l.take k ++ [l[k]]) := List.take_succ_eq_append_getElem hlt
      have hlk : (l.take k).length = k := by rw [List.length_take]; omega
      have HLK := Lib.hid hlk
      have HC : Hid (∀ W, Fr No w W → Calls Tryz.prog 39 #[l[k].val (.slice B l[k].legs.length d)] W (OrdRet W l[k])) := fun W hW => copyO_any _ l[k] _ W (hL.no hW) (HS.out _ (List.getElem_mem hlt))
      have HOK : Hid (l[k].ok ∧ ∀ g ∈ l[k].legs, g.ok) := ⟨hok, hg⟩
      have HFR := Lib.hid hfr
      have HNW := Lib.hid hnew
      have HOWN := Lib.hid hown
      have HLT : Hid (k + 1 ≤ l.length) := hlt
      unfold OrdRet Od.val Od.cs at HC
      have HCS : Hid (∀ v, l[k].cs v = [.int .i64 l[k].cl, .int .i64 l[k].sq, .int .i64 l[k].kd, .string l[k].acct, .string l[k].peer, .int .i64 l[k].sum, v, .int .i64 l[k].per, .int .i64 l[k].hold, .string l[k].note]) := fun _ => rfl
      have HEP : Hid (∀ (wa w1 w2 w3 : World) (g g1 : Option Nat) (cells : List Value) (v : Value), Each (OdRF wr (New w.heap.size wr g)) 10 cells (l.take k) → (∀ k, g = some k → k < wr.heap.size) → w.heap.size ≤ wa.heap.size → Fr No wr wa → Fr No wa w1 → LgS w1 (New wa.heap.size w1 none) v l[k].legs → Fr No w1 w2 → Fr (AtO g) w2 w3 → (g1 = g ∨ g1 = some w2.heap.size) → Each (OdRF w3 (New w.heap.size w3 g1)) 10 (cells ++ l[k].cs v) (l.take k ++ [l[k]]))   := fun wa w1 w2 w3 g g1 cells v h0 hlt hB h1 h2 h3 h4 h5 h6 => eachN_put hB h0 hlt h1 h2 h3 h4 h5 h6 hok hg
      obtain ⟨cells, ho, hE⟩ := hown
      have HO := Lib.hid ho
      have HE := Lib.hid hE
      simp only [List.toArray] at HC
      generalize l[k].legs = L at *
      generalize l[k].cl = cl at *
      generalize l[k].sq = sq at *
      generalize l[k].kd = kd at *
      generalize l[k].acct = acct at *
      generalize l[k].peer = peer at *
      generalize l[k].sum = sum at *
      generalize l[k].per = per at *
      generalize l[k].hold = hold at *
      generalize l[k].note = note at *
      generalize l[k] = ok_ at *
      clear hok hg hL hE hlk ho hfr hnew
      go_wp2_with fail
      (with_reducible refine (HC.out _ (HFR.out.alloc _)).mono ?_)
      rintro e w1 ⟨A1, c1, rfl, hL1, hf1⟩
      have HL1 := Lib.hid hL1
      have HF1 := Lib.hid hf1
      have HSZ : Hid (w.heap.size ≤ wr.heap.size) := HFR.out.size
      clear hL1 hf1
      go_wp2_with (at_builtin; refine wpList_app _ rfl (.tmp 14) (.tmp 18) 22 22 rfl elO ((((HO.out.alloc _).fr HF1.out (fun _ _ h => h))).alloc _) rfl (Src.of_new (cs := #[.int .i64 cl, .int .i64 sq, .int .i64 kd, .string acct, .string peer, .int .i64 sum, .slice A1 L.length c1, .int .i64 per, .int .i64 hold, .string note]) (t := 47) w1.heap.size (heap_alloc_new w1 _) Tryz.underlying22 rfl (by simp [Value.oneCell'])) rfl (by rw [HLK.out]; simp only [maxLen]; omega) (by rw [HLK.out]; omega) ?_; intro v1 w3 hown3 hfr3 hnew3)
      go_roundw
      case rel =>
        refine ⟨k + 1, HLT.out, by go_num, ?_, ?_, ?_⟩
        · rw [HTK.out]
          refine ⟨_, by rw [List.length_append]; exact hown3, ?_⟩
          have h := HEP.out _ _ _ _ _ _ _ _ HE.out HO.out.lt (by rw [World.size_alloc]; have := HSZ.out; omega) ((Fr.refl _ _).alloc _) HF1.out HL1.out ((Fr.refl _ _).alloc _) hfr3 hnew3
          rw [HCS.out] at h
          exact h
        · refine (((HFR.out.alloc _).trans HF1.out).alloc _).trans' hfr3 fun i hi hlt => ?_
          have hi : _ = some i := hi
          have := newer_none HNW.out i hi
          omega
        · refine HNW.out.trans (Newer.of hnew3) ?_
          rw [World.size_alloc]
          have h1 := HF1.out.size
          rw [World.size_alloc] at h1
          have := HSZ.out
          omega
      case measure => have := HLT.out; simp [intOf]; omega
    · obtain rfl : k = l.length := by omega
      rw [List.take_length] at hown
      obtain ⟨A1, c1, rfl, h1, h2⟩ := hown.form
      go_wp2
      go_ret
      exact ⟨A1, c1, rfl, hown, hfr, fun j hj => newer_none hnew j hj⟩

/-! ### which orders a list lacks -/
def leftB (L : List Idk) (o : Od) : Bool := !(posF L o.id).isSome
/-- the closure: the map's variable at g, the map m -/
structure WoS (w : World) (g m : Nat) (L : List Idk) : Prop where
  cell : w.cell? ⟨g, 0, none⟩ = some (.map (some m))
  mp : IMp w m L
theorem WoS.no {w w' : World} {g m : Nat} {L : List Idk} (h : WoS w g m L) (hf : Fr No w w') : WoS w' g m L := ⟨hf.cell_some h.cell (fun h => h), h.mp.fr hf (fun h => h)⟩
abbrev woV (g : Nat) : Value := .func (.func 139) #[] #[.pointer (some ⟨g, 0, none⟩)]
set_option maxRecDepth 100000 in
theorem without_any (w0 w : World) (F : Nat → Prop) (A : Option Addr) (c : Nat) (l : List Od) (hl : OdsS w0 w F A l) (hn : l.length ≤ 1000000) :
    Calls Tryz.prog 109 #[.slice A l.length c] w fun e w' => ∃ g m, e = .returned (woV g) ∧ WoS w' g m (idsO l) ∧ Fr No w w' := by
  have HP : Hid (∀ W, Fr No w W → _) := fun W hW => positions_any w0 W F A c l (hl.fr hW (fun _ _ _ h => h)) hn
  clear hl hn
  go_enter Tryz.func109, Tryz.ntmps109
  go_wp2_with fail
  (with_reducible refine (HP.out _ (Fr.refl _ _)).mono ?_)
  rintro e w1 ⟨m, rfl, hm, hf, -⟩
  have HM := Lib.hid hm
  have HF := Lib.hid hf
  clear hm hf
  go_wp2
  go_ret
  refine ⟨_, m, rfl, ⟨?_, ?_⟩, HF.out.alloc _⟩
  · exact (Blk.new w1 _ _).cell 0
  · exact HM.out.fr ((Fr.refl No _).alloc _) (fun h => h)
set_option maxRecDepth 100000 in
theorem left_any (o : Od) (v : Value) (g m : Nat) (L : List Idk) (w : World) (h : WoS w g m L) (hok : IdOk o.id) (hv : ∃ A n c, v = .slice A n c) :
    Calls Tryz.prog 139 #[o.val v, .pointer (some ⟨g, 0, none⟩)] w fun e w' => e = .returned (.bool (leftB L o)) ∧ Fr No w w' := by
  obtain ⟨vA, vn, vc, rfl⟩ := hv
  have c0 : ∀ W, Fr No w W → W.cell? ⟨g, 0, none⟩ = some (.map (some m)) := fun W hW => hW.cell_some h.cell (fun h => h)
  have hlk : ∀ W, Fr No w W → _ := fun W hW => (h.mp.fr hW (fun h => h)).look o.id hok
  unfold leftB
  obtain ⟨ocl, osq, okd, oac, ope, osm, olg, opr, ohd, ont⟩ := o
  unfold Od.val Od.cs Od.id at *
  simp only at hlk ⊢
  generalize (posF L (ocl, osq)).isSome = res at *
  generalize posO (posF L (ocl, osq)) = ps at *
  have c1 := c0 _ ((Fr.refl _ w).alloc (.cells #[.int .i64 ocl, .int .i64 osq, .int .i64 okd, .string oac, .string ope, .int .i64 osm, .slice vA vn vc, .int .i64 opr, .int .i64 ohd, .string ont] 47))
  have k1 := hlk _ ((Fr.refl _ w).alloc (.cells #[.int .i64 ocl, .int .i64 osq, .int .i64 okd, .string oac, .string ope, .int .i64 osm, .slice vA vn vc, .int .i64 opr, .int .i64 ohd, .string ont] 47))
  clear h hok c0 hlk
  go_enter Tryz.func139, Tryz.ntmps139
  go_wp2
  go_ret
  exact ⟨rfl, (Fr.refl _ _).alloc _⟩
end Go.Proofs.YtnphncemghfkbaaGreat

namespace Go.Proofs.YtnphncemghfkbaaGreat
open Go.RowKit Go.My Go.Maps Go.WideMaps
set_option linter.unusedSimpArgs false
set_option linter.unusedVariables false
attribute [local go_sem ↓] Go.wp_at_zero Go.wp_at_succ

def KpRel (w : World) (q : Od → Bool) (l : List Od) (lv iv : Value) (wr : World) : Prop := ∃ k : Nat, k ≤ l.length ∧ iv = .int .i64 k ∧ OwnN w.heap.size wr lv ((l.take k).filter q) ∧ Fr No w wr ∧ Newer w.heap.size none lv.ownBlock
end Go.Proofs.YtnphncemghfkbaaGreat

namespace Go.Proofs.YtnphncemghfkbaaGreat
open Go.RowKit Go.My Go.Maps Go.WideMaps
set_option linter.unusedSimpArgs false
set_option linter.unusedVariables false
attribute [local go_sem ↓] Go.wp_at_zero Go.wp_at_succ

def CtRel (w : World) (b a : List Od) (iv : Value) (wr : World) : Prop := ∃ k : Nat, k ≤ a.length ∧ iv = .int .i64 k ∧ (a.take k).all (hasB b) = true ∧ Fr No w wr
set_option maxRecDepth 100000 in
set_option maxHeartbeats 2000000 in
theorem containsC_any (w : World) (F G : Nat → Prop) (A B : Option Addr) (c d : Nat) (a b : List Od) (ha : OdsS w w F A a) (hb : OdsS w w G B b) (hn : a.length ≤ 1000000) (hm : b.length ≤ 1000000) (hbd : b.length ≤ d) :
    Calls Tryz.prog 81 #[.slice B b.length d, .slice A a.length c] w fun e w' => e = .returned (.bool (containsB b a)) ∧ Fr No w w' := by
  have HP := Lib.hid (positions_any w w G B d b hb hm)
  have HA := Lib.hid ha
  have HB := Lib.hid hb
  clear ha hb
  go_enter Tryz.func81, Tryz.ntmps81
  go_wp2_with fail
  (with_reducible refine HP.out.mono ?_)
  rintro e w1 ⟨m, rfl, hm1, hf1, -⟩
  have HM := Lib.hid hm1
  have HF1 := Lib.hid hf1
  clear hm1 hf1 HP
  go_wp2
  go_loopw [14] (fun iv wr => CtRel w1 b a iv wr) (fun iv _ => a.length - (intOf iv).toNat)
  case atStart => exact ⟨0, Nat.zero_le _, rfl, rfl, Fr.refl _ _⟩
  case round =>
    obtain ⟨k, hk, rfl, hall, hfr⟩ := hrel
    have hk62 : (k : Int) ≤ 1000000 := by omega
    by_cases hlt : k < a.length
    · have hfw : Fr No w wr := HF1.out.trans hfr
      obtain ⟨ad, v, rfl, _, hok, hg, hL, q0, q1, q2, q3, q4, q5, q6, q7, q8, q9⟩ := (HA.out.fr hfw (fun _ _ _ h => h)).at_ k hlt
      obtain ⟨vB, vd, rfl, hd1, hd2⟩ := hL.form
      have HT : Hid (hasB b a[k] = true → (a.take (k + 1)).all (hasB b) = true) := fun h => by
        rw [List.take_succ_eq_append_getElem hlt, List.all_append, hall, List.all_cons, List.all_nil, h]
        rfl
      have HN : Hid (hasB b a[k] = false → containsB b a = false) := fun h => by
        unfold containsB
        rw [List.all_eq_false]
        exact ⟨_, List.getElem_mem hlt, by rw [h]; decide⟩
      have HLT : Hid (k + 1 ≤ a.length) := hlt
      have HFR := Lib.hid hfr
      have hid : IdOk a[k].id := ⟨hok.1, hok.2.1⟩
      have HB0 : Hid (hasB b a[k] = match posF (idsO b) a[k].id with | some i => (b[i]?).any fun x => eqO x a[k] | none => false) := rfl
      have HLK : Hid (∀ W, Fr No w1 W → (Instr.lookup 87 (.map (some m)) (.agg #[.int .i64 a[k].cl, .int .i64 a[k].sq]) true).run Tryz.prog W = .ok (.tuple #[.int .i64 (posO (posF (idsO b) a[k].id)), .bool (posF (idsO b) a[k].id).isSome]) W) := fun W hW => (HM.out.fr hW (fun h => h)).look a[k].id hid
      cases hp : posF (idsO b) a[k].id with
      | none =>
        rw [hp] at HB0 HLK
        have HN2 := Lib.hid (HN.out HB0.out)
        have hlk := HLK.out _ (HFR.out.alloc (.cells #[.int .i64 a[k].cl, .int .i64 a[k].sq, .int .i64 a[k].kd, .string a[k].acct, .string a[k].peer, .int .i64 a[k].sum, .slice vB a[k].legs.length vd, .int .i64 a[k].per, .int .i64 a[k].hold, .string a[k].note] 47))
        simp only [posO, Option.isSome_none] at hlk
        clear hp HB0 HLK HN HT hok hg hL hall hid hfr
        generalize a[k].legs.length = vn at *
        generalize a[k].cl = cl at *
        generalize a[k].sq = sq at *
        generalize a[k].kd = kd at *
        generalize a[k].acct = acct at *
        generalize a[k].peer = peer at *
        generalize a[k].sum = sum at *
        generalize a[k].per = per at *
        generalize a[k].hold = hold at *
        generalize a[k].note = note at *
        go_upto_region 6 with (fail)
        go_quiet (fail)
        go_wp2
        go_ret
        exact ⟨by rw [HN2.out]; rfl, (hfw.alloc _).drewN _⟩
      | some i =>
        obtain ⟨hi0, hi1⟩ := posF_some hp
        have hi : i < b.length := by rw [idsO_length] at hi0; exact hi0
        rw [hp] at HB0 HLK
        simp only [List.getElem?_eq_getElem hi, Option.any_some] at HB0
        have hlk := HLK.out _ (HFR.out.alloc (.cells #[.int .i64 a[k].cl, .int .i64 a[k].sq, .int .i64 a[k].kd, .string a[k].acct, .string a[k].peer, .int .i64 a[k].sum, .slice vB a[k].legs.length vd, .int .i64 a[k].per, .int .i64 a[k].hold, .string a[k].note] 47))
        simp only [posO, Option.isSome_some] at hlk
        obtain ⟨bd, u, rfl, _, hokb, hgb, hLb, r0, r1, r2, r3, r4, r5, r6, r7, r8, r9⟩ := (HB.out.fr hfw (fun _ _ _ h => h)).at_ i hi
        obtain ⟨uB, ud, rfl, hd3, hd4⟩ := hLb.form
        have HS : Hid (∀ W, Fr No w W → Calls Tryz.prog 57 #[b[i].val (.slice uB b[i].legs.length ud), a[k].val (.slice vB a[k].legs.length vd)] W fun e w' => e = .returned (.bool (eqO b[i] a[k])) ∧ Fr No W w') := fun W hW => osame_any _ _ b[i] a[k] _ _ W (hLb.no hW) (hL.no hW)
        unfold Od.val Od.cs at HS
        simp only [List.toArray] at HS
        have hAL := fun j => ((Blk.new wr 47 #[.int .i64 a[k].cl, .int .i64 a[k].sq, .int .i64 a[k].kd, .string a[k].acct, .string a[k].peer, .int .i64 a[k].sum, .slice vB a[k].legs.length vd, .int .i64 a[k].per, .int .i64 a[k].hold, .string a[k].note]).cell j)
        have hib : (i : Int) < b.length := by omega
        have hi0' : (0 : Int) ≤ (i : Int) := by omega
        clear hp HLK hok hg hL hall hid hfr hokb hgb hLb hi0 hi1 hd1 hd2 hd3 hd4
        generalize eqO b[i] a[k] = res at *
        generalize b[i].legs.length = un at *
        generalize b[i].cl = bcl at *
        generalize b[i].sq = bsq at *
        generalize b[i].kd = bkd at *
        generalize b[i].acct = bacct at *
        generalize b[i].peer = bpeer at *
        generalize b[i].sum = bsum at *
        generalize b[i].per = bper at *
        generalize b[i].hold = bhold at *
        generalize b[i].note = bnote at *
        generalize a[k].legs.length = vn at *
        generalize a[k].cl = cl at *
        generalize a[k].sq = sq at *
        generalize a[k].kd = kd at *
        generalize a[k].acct = acct at *
        generalize a[k].peer = peer at *
        generalize a[k].sum = sum at *
        generalize a[k].per = per at *
        generalize a[k].hold = hold at *
        generalize a[k].note = note at *
        go_upto_region 6 with (fail)
        have HFW : Hid (Fr No w1 (wr.alloc (.cells #[.int .i64 cl, .int .i64 sq, .int .i64 kd, .string acct, .string peer, .int .i64 sum, .slice vB vn vd, .int .i64 per, .int .i64 hold, .string note] 47))) := HFR.out.alloc _
        have HFA : Hid (Fr No w (wr.alloc (.cells #[.int .i64 cl, .int .i64 sq, .int .i64 kd, .string acct, .string peer, .int .i64 sum, .slice vB vn vd, .int .i64 per, .int .i64 hold, .string note] 47))) := hfw.alloc _
        have x0 := hAL 0
        have x1 := hAL 1
        have x2 := hAL 2
        have x3 := hAL 3
        have x4 := hAL 4
        have x5 := hAL 5
        have x6 := hAL 6
        have x7 := hAL 7
        have x8 := hAL 8
        have x9 := hAL 9
        simp only [List.getElem?_toArray, List.getElem?_cons_zero, List.getElem?_cons_succ] at x0 x1 x2 x3 x4 x5 x6 x7 x8 x9
        have HR : Hid (∀ p v, wr.cell? p = some v → (wr.alloc (.cells #[.int .i64 cl, .int .i64 sq, .int .i64 kd, .string acct, .string peer, .int .i64 sum, .slice vB vn vd, .int .i64 per, .int .i64 hold, .string note] 47)).cell? p = some v) := fun p v h => (Fr.refl No wr).alloc _ |>.cell_some h (fun h => h)
        have s0 := HR.out _ _ r0
        have s1 := HR.out _ _ r1
        have s2 := HR.out _ _ r2
        have s3 := HR.out _ _ r3
        have s4 := HR.out _ _ r4
        have s5 := HR.out _ _ r5
        have s6 := HR.out _ _ r6
        have s7 := HR.out _ _ r7
        have s8 := HR.out _ _ r8
        have s9 := HR.out _ _ r9
        clear r0 r1 r2 r3 r4 r5 r6 r7 r8 r9 q0 q1 q2 q3 q4 q5 q6 q7 q8 q9 hAL hlk
        generalize (wr.alloc (.cells #[.int .i64 cl, .int .i64 sq, .int .i64 kd, .string acct, .string peer, .int .i64 sum, .slice vB vn vd, .int .i64 per, .int .i64 hold, .string note] 47)) = wa at *
        cases hq : res
        · subst hq
          have HN2 := Lib.hid (HN.out HB0.out)
          clear HN HT HB0
          go_region_with (go_at_call 57; (with_reducible refine (HS.out _ HFA.out.drew).mono ?_); rintro e w4 ⟨rfl, hf4⟩)
          all_goals
            go_wp2
            go_ret
            exact ⟨by rw [HN2.out]; rfl, HFA.out.drew.trans hf4⟩
        · subst hq
          have HT2 := Lib.hid (HT.out HB0.out)
          clear HN HT HB0
          have HFB : Hid (Fr No w1 wa.drew) := HFW.out.drew
          go_region_with (go_at_call 57; (with_reducible refine (HS.out _ HFA.out.drew).mono ?_); rintro e w4 ⟨rfl, hf4⟩)
          all_goals
            have HF4 : Hid (Fr No w1 w4) := HFB.out.trans hf4
            clear s0 s1 s2 s3 s4 s5 s6 s7 s8 s9 x0 x1 x2 x3 x4 x5 x6 x7 x8 x9
            go_wp2
            go_roundw
            case rel => exact ⟨k + 1, HLT.out, by go_num, HT2.out, HF4.out⟩
            case measure => have := HLT.out; simp [intOf]; omega
    · obtain rfl : k = a.length := by omega
      rw [List.take_length] at hall
      have HE : Hid (containsB b a = true) := hall
      go_wp2
      go_ret
      exact ⟨by rw [HE.out]; rfl, HF1.out.trans hfr⟩
end Go.Proofs.YtnphncemghfkbaaGreat
