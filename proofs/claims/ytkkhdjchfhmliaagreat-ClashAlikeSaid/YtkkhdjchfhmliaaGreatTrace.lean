/- Lists whose elements may change places where they do not clash: which lists are alike, begin one another, and meet. Of no program. -/
import Init
namespace Go.My
set_option linter.unusedSimpArgs false
set_option linter.unusedVariables false
set_option linter.unusedSectionVars false

section
variable {α : Type} {κ : Type} [DecidableEq κ]

/-- x stands somewhere, and y behind it -/
def bef (x y : α) : List α → Prop
  | [] => False
  | z :: l => (z = x ∧ y ∈ l) ∨ bef x y l
theorem bef_nil (x y : α) : ¬ bef x y [] := fun h => h
theorem bef_cons (x y z : α) (l : List α) : bef x y (z :: l) ↔ (z = x ∧ y ∈ l) ∨ bef x y l := Iff.rfl
theorem bef_append (x y : α) (l r : List α) : bef x y (l ++ r) ↔ bef x y l ∨ (x ∈ l ∧ y ∈ r) ∨ bef x y r := by
  induction l with
  | nil => simp [bef]
  | cons z l ih =>
    rw [List.cons_append, bef_cons, bef_cons, ih, List.mem_append, List.mem_cons]
    constructor
    · rintro (⟨h, h1 | h1⟩ | h | h | h)
      · exact .inl (.inl ⟨h, h1⟩)
      · exact .inr (.inl ⟨.inl h.symm, h1⟩)
      · exact .inl (.inr h)
      · exact .inr (.inl ⟨.inr h.1, h.2⟩)
      · exact .inr (.inr h)
    · rintro ((h | h) | ⟨h | h, h1⟩ | h)
      · exact .inl ⟨h.1, .inl h.2⟩
      · exact .inr (.inl h)
      · exact .inl ⟨h.symm, .inr h1⟩
      · exact .inr (.inr (.inl ⟨h, h1⟩))
      · exact .inr (.inr (.inr h))
theorem bef_mem {x y : α} {l : List α} (h : bef x y l) : x ∈ l ∧ y ∈ l := by
  induction l with
  | nil => exact absurd h (bef_nil _ _)
  | cons z l ih =>
    rcases h with ⟨rfl, h⟩ | h
    · exact ⟨List.mem_cons_self, List.mem_cons_of_mem _ h⟩
    · exact ⟨List.mem_cons_of_mem _ (ih h).1, List.mem_cons_of_mem _ (ih h).2⟩
theorem bef_filter (x y : α) (p : α → Bool) (l : List α) : bef x y (l.filter p) ↔ bef x y l ∧ p x = true ∧ p y = true := by
  induction l with
  | nil => simp [bef]
  | cons z l ih =>
    rw [List.filter_cons]
    split
    · rename_i hz
      rw [bef_cons, bef_cons, ih, List.mem_filter]
      constructor
      · rintro (⟨rfl, h, hy⟩ | ⟨h, hx, hy⟩)
        · exact ⟨.inl ⟨rfl, h⟩, hz, hy⟩
        · exact ⟨.inr h, hx, hy⟩
      · rintro ⟨⟨rfl, h⟩ | h, hx, hy⟩
        · exact .inl ⟨rfl, h, hy⟩
        · exact .inr ⟨h, hx, hy⟩
    · rename_i hz
      rw [ih, bef_cons]
      constructor
      · rintro ⟨h, hx, hy⟩
        exact ⟨.inr h, hx, hy⟩
      · rintro ⟨⟨rfl, h⟩ | h, hx, hy⟩
        · exact absurd hx hz
        · exact ⟨h, hx, hy⟩
theorem bef_total {x y : α} {l : List α} (hx : x ∈ l) (hy : y ∈ l) (hne : x ≠ y) : bef x y l ∨ bef y x l := by
  induction l with
  | nil => cases hx
  | cons z l ih =>
    rw [bef_cons, bef_cons]
    rcases List.mem_cons.1 hx with e1 | h1
    · rcases List.mem_cons.1 hy with e2 | h2
      · exact absurd (e1.trans e2.symm) hne
      · exact .inl (.inl ⟨e1.symm, h2⟩)
    · rcases List.mem_cons.1 hy with e2 | h2
      · exact .inr (.inl ⟨e2.symm, h1⟩)
      · exact (ih h1 h2).imp .inr .inr
theorem bef_anti {x y : α} {l : List α} (hn : l.Nodup) (h : bef x y l) : ¬ bef y x l := by
  induction l with
  | nil => exact absurd h (bef_nil _ _)
  | cons z l ih =>
    rw [List.nodup_cons] at hn
    rcases h with ⟨rfl, h⟩ | h
    · rintro (⟨rfl, k⟩ | k)
      · exact hn.1 k
      · exact hn.1 (bef_mem k).2
    · rintro (⟨rfl, k⟩ | k)
      · exact hn.1 (bef_mem h).2
      · exact ih hn.2 h k
theorem bef_ne {x y : α} {l : List α} (hn : l.Nodup) (h : bef x y l) : x ≠ y := by
  rintro rfl
  exact bef_anti hn h h
/-- by places -/
theorem bef_iff_get (x y : α) (l : List α) : bef x y l ↔ ∃ j, ∃ hj : j < l.length, l[j] = y ∧ x ∈ l.take j := by
  induction l with
  | nil => simp [bef]
  | cons z l ih =>
    rw [bef_cons, ih]
    constructor
    · rintro (⟨rfl, h⟩ | ⟨j, hj, h, k⟩)
      · obtain ⟨j, hj, rfl⟩ := List.mem_iff_getElem.1 h
        exact ⟨j + 1, by simp only [List.length_cons]; omega, rfl, List.mem_cons_self⟩
      · exact ⟨j + 1, by simp only [List.length_cons]; omega, h, List.mem_cons_of_mem _ k⟩
    · rintro ⟨j, hj, h, k⟩
      cases j with
      | zero => simp at k
      | succ j =>
        rw [List.take_succ_cons, List.mem_cons] at k
        rcases k with rfl | k
        · exact .inl ⟨rfl, by rw [← h]; exact List.getElem_mem _⟩
        · exact .inr ⟨j, by simp only [List.length_cons] at hj; omega, h, k⟩

theorem nodup_len [DecidableEq α] {a : List α} : ∀ {b : List α}, a.Nodup → (∀ x ∈ a, x ∈ b) → a.length ≤ b.length ∧ (a.length = b.length → ∀ x ∈ b, x ∈ a) := by
  induction a with
  | nil => intro b _ _; exact ⟨Nat.zero_le _, fun e x hx => by have : b = [] := List.eq_nil_of_length_eq_zero e.symm; rw [this] at hx; exact hx⟩
  | cons z a ih =>
    intro b hn hs
    rw [List.nodup_cons] at hn
    have hz : z ∈ b := hs z List.mem_cons_self
    have h1 := ih (b := b.erase z) hn.2 fun x hx => by
      have hne : x ≠ z := by rintro rfl; exact hn.1 hx
      exact (List.mem_erase_of_ne hne).2 (hs x (List.mem_cons_of_mem _ hx))
    have hl := List.length_erase_of_mem hz
    have hp : 0 < b.length := List.length_pos_of_mem hz
    rw [List.length_cons]
    refine ⟨by omega, fun e x hx => ?_⟩
    by_cases hxz : x = z
    · exact hxz ▸ List.mem_cons_self
    · exact List.mem_cons_of_mem _ (h1.2 (by omega) x ((List.mem_erase_of_ne hxz).2 hx))

variable (idf : α → κ) (cl : α → α → Bool)

/-- no Id twice -/
def Rt (l : List α) : Prop := (l.map idf).Nodup
/-- something can be put behind a so that it is alike b -/
def Bg (a b : List α) : Prop := Rt idf a ∧ Rt idf b ∧ (∀ o ∈ a, o ∈ b) ∧ ∀ x o, bef x o b → cl x o = true → o ∈ a → bef x o a
def Ak (a b : List α) : Prop := a.length = b.length ∧ Bg idf cl a b
/-- those of b that are not in a -/
def others (a b : List α) : List α := b.filter fun o => decide (idf o ∉ a.map idf)
variable {idf cl}
theorem Rt.nodup {l : List α} (h : Rt idf l) : l.Nodup := by
  unfold Rt at h
  exact List.Pairwise.of_map (S := (· ≠ ·)) idf (fun a b hab e => hab (by rw [e])) h
theorem Rt.inj {l : List α} (h : Rt idf l) {x y : α} (hx : x ∈ l) (hy : y ∈ l) (e : idf x = idf y) : x = y := by
  induction l with
  | nil => cases hx
  | cons z l ih =>
    unfold Rt at h
    rw [List.map_cons, List.nodup_cons] at h
    rcases List.mem_cons.1 hx with e1 | h1
    · rcases List.mem_cons.1 hy with e2 | h2
      · exact e1.trans e2.symm
      · exact absurd (by rw [← e1, e]; exact List.mem_map_of_mem h2) h.1
    · rcases List.mem_cons.1 hy with e2 | h2
      · exact absurd (by rw [← e2, ← e]; exact List.mem_map_of_mem h1) h.1
      · exact ih h.2 h1 h2
theorem Rt.nil : Rt idf [] := List.nodup_nil
theorem Rt.filter {l : List α} (h : Rt idf l) (p : α → Bool) : Rt idf (l.filter p) := by
  unfold Rt at *
  exact (List.Sublist.map idf List.filter_sublist).nodup h
theorem Rt.take {l : List α} (h : Rt idf l) (k : Nat) : Rt idf (l.take k) := by
  unfold Rt at *
  exact (List.Sublist.map idf (List.take_sublist k l)).nodup h
theorem Rt.perm {l m : List α} (h : Rt idf l) (p : l.Perm m) : Rt idf m := (p.map idf).nodup_iff.1 h
theorem mem_others {a b : List α} {o : α} : o ∈ others idf a b ↔ o ∈ b ∧ idf o ∉ a.map idf := by
  unfold others
  rw [List.mem_filter]
  simp
theorem Rt.meet {a b : List α} (ha : Rt idf a) (hb : Rt idf b) : Rt idf (a ++ others idf a b) := by
  have h1 := hb.filter fun o => decide (idf o ∉ a.map idf)
  unfold Rt at *
  rw [List.map_append, List.nodup_append]
  refine ⟨ha, h1, fun x hx y hy e => ?_⟩
  subst e
  obtain ⟨o, ho, rfl⟩ := List.mem_map.1 hy
  exact (mem_others.1 ho).2 hx
theorem others_nil (b : List α) : others idf [] b = b := by
  unfold others
  rw [List.filter_eq_self]
  intro x _
  simp
theorem others_self (b : List α) : others idf b b = [] := by
  unfold others
  rw [List.filter_eq_nil_iff]
  intro x hx
  simp only [decide_not, Bool.not_eq_true', decide_eq_false_iff_not, Decidable.not_not]
  exact List.mem_map_of_mem hx
theorem others_take {a : List α} (h : Rt idf a) (k : Nat) : a.take k ++ others idf (a.take k) a = a := by
  have e := List.take_append_drop k a
  have : others idf (a.take k) a = a.drop k := by
    conv => lhs; rw [← e]
    unfold others
    rw [List.take_append_drop]
    have h2 : Rt idf (a.take k ++ a.drop k) := by rw [e]; exact h
    unfold Rt at h2
    rw [List.map_append, List.nodup_append] at h2
    conv => lhs; arg 2; rw [← e]
    rw [List.filter_append]
    have h3 : (a.take k).filter (fun o => decide (idf o ∉ (a.take k).map idf)) = [] := by
      rw [List.filter_eq_nil_iff]
      intro x hx
      simp only [decide_not, Bool.not_eq_true', decide_eq_false_iff_not, Decidable.not_not]
      exact List.mem_map_of_mem hx
    have h4 : (a.drop k).filter (fun o => decide (idf o ∉ (a.take k).map idf)) = a.drop k := by
      rw [List.filter_eq_self]
      intro x hx
      simp only [decide_eq_true_eq]
      intro hm
      exact h2.2.2 _ hm _ (List.mem_map_of_mem hx) rfl
    rw [h3, h4]
    rfl
  rw [this, e]
theorem Bg.refl {a : List α} (h : Rt idf a) : Bg idf cl a a := ⟨h, h, fun _ h => h, fun _ _ h _ _ => h⟩
theorem Bg.nil {b : List α} (h : Rt idf b) : Bg idf cl [] b := ⟨Rt.nil, h, fun _ k => absurd k List.not_mem_nil, fun _ _ _ _ k => absurd k List.not_mem_nil⟩
theorem Bg.trans {a b c : List α} (h : Bg idf cl a b) (k : Bg idf cl b c) : Bg idf cl a c :=
  ⟨h.1, k.2.1, fun o ho => k.2.2.1 o (h.2.2.1 o ho), fun x o hb hc ho => h.2.2.2 x o (k.2.2.2 x o hb hc (h.2.2.1 o ho)) hc ho⟩
theorem Bg.take {a : List α} (h : Rt idf a) (k : Nat) : Bg idf cl (a.take k) a := by
  refine ⟨h.take k, h, fun o ho => List.mem_of_mem_take ho, fun x o hb _ ho => ?_⟩
  have e := List.take_append_drop k a
  have hn : (a.take k ++ a.drop k).Nodup := by rw [e]; exact h.nodup
  rw [List.nodup_append] at hn
  rw [← e, bef_append] at hb
  rcases hb with hb | ⟨_, hb⟩ | hb
  · exact hb
  · exact absurd rfl (hn.2.2 _ ho _ hb)
  · exact absurd rfl (hn.2.2 _ ho _ (bef_mem hb).2)
theorem Bg.len_le {a b : List α} (h : Bg idf cl a b) : a.length ≤ b.length := by
  classical
  exact (nodup_len h.1.nodup h.2.2.1).1
theorem Ak.refl {a : List α} (h : Rt idf a) : Ak idf cl a a := ⟨rfl, Bg.refl h⟩
theorem Ak.trans {a b c : List α} (h : Ak idf cl a b) (k : Ak idf cl b c) : Ak idf cl a c := ⟨h.1.trans k.1, h.2.trans k.2⟩
theorem Ak.symm (hs : ∀ x y, cl x y = cl y x) {a b : List α} (h : Ak idf cl a b) : Ak idf cl b a := by
  classical
  have hsub := (nodup_len h.2.1.nodup h.2.2.2.1).2 h.1
  refine ⟨h.1.symm, h.2.2.1, h.2.1, hsub, fun x o hb hc ho => ?_⟩
  obtain ⟨hx, -⟩ := bef_mem hb
  have hne := bef_ne h.2.1.nodup hb
  rcases bef_total (h.2.2.2.1 x hx) ho hne with k | k
  · exact k
  · exact absurd (h.2.2.2.2 o x k (by rw [hs]; exact hc) hx) (bef_anti h.2.1.nodup hb)
/-- two neighbours that do not clash change places -/
theorem Ak.swap {p r : List α} {x y : α} (hs : ∀ x y, cl x y = cl y x) (h : Rt idf (p ++ x :: y :: r)) (hc : cl x y = false) : Ak idf cl (p ++ x :: y :: r) (p ++ y :: x :: r) := by
  have hp : (p ++ x :: y :: r).Perm (p ++ y :: x :: r) := List.Perm.append_left p (List.Perm.swap y x r)
  refine ⟨hp.length_eq, h, h.perm hp, fun o ho => (hp.mem_iff).1 ho, fun u o hb hu ho => ?_⟩
  rw [bef_append, bef_cons, bef_cons] at hb ⊢
  rcases hb with hb | ⟨h1, h2⟩ | ⟨rfl, h2⟩ | ⟨rfl, h2⟩ | hb
  · exact .inl hb
  · refine .inr (.inl ⟨h1, ?_⟩)
    simp only [List.mem_cons] at h2 ⊢
    rcases h2 with h2 | h2 | h2
    · exact .inr (.inl h2)
    · exact .inl h2
    · exact .inr (.inr h2)
  · rcases List.mem_cons.1 h2 with rfl | h2
    · rw [hs, hc] at hu
      cases hu
    · exact .inr (.inr (.inr (.inl ⟨rfl, h2⟩)))
  · exact .inr (.inr (.inl ⟨rfl, List.mem_cons_of_mem _ h2⟩))
  · exact .inr (.inr (.inr (.inr hb)))
/-- what is behind a beginning, put behind it, is alike the whole -/
theorem Bg.rest (hs : ∀ x y, cl x y = cl y x) {a m : List α} (h : Bg idf cl a m) : Ak idf cl (a ++ others idf a m) m := by
  classical
  have hr := h.1.meet h.2.1
  have hin : ∀ o ∈ m, o ∈ a ++ others idf a m := fun o ho => by
    by_cases hi : idf o ∈ a.map idf
    · obtain ⟨z, hz, e⟩ := List.mem_map.1 hi
      rw [h.2.1.inj ho (h.2.2.1 z hz) e.symm]
      exact List.mem_append_left _ hz
    · exact List.mem_append_right _ (mem_others.2 ⟨ho, hi⟩)
  have hout : ∀ o ∈ a ++ others idf a m, o ∈ m := fun o ho => by
    rcases List.mem_append.1 ho with ho | ho
    · exact h.2.2.1 o ho
    · exact (mem_others.1 ho).1
  refine ⟨?_, hr, h.2.1, hout, fun x o hb hc ho => ?_⟩
  · have h1 := (nodup_len hr.nodup hout).1
    have h2 := (nodup_len h.2.1.nodup hin).1
    omega
  · rw [bef_append]
    rcases List.mem_append.1 ho with ho | ho
    · exact .inl (h.2.2.2 x o hb hc ho)
    · have hx := hin x (bef_mem hb).1
      rcases List.mem_append.1 hx with hx | hx
      · exact .inr (.inl ⟨hx, ho⟩)
      · refine .inr (.inr ?_)
        unfold others at hx ho ⊢
        exact (bef_filter _ _ _ _).2 ⟨hb, (List.mem_filter.1 hx).2, (List.mem_filter.1 ho).2⟩
theorem Bg.meet_left {a b : List α} (ha : Rt idf a) (hb : Rt idf b) : Bg idf cl a (a ++ others idf a b) := by
  have hr := ha.meet hb
  have := Bg.take (cl := cl) hr a.length
  rw [List.take_left] at this
  exact this
/-- two beginnings of one list meet, in a beginning of it -/
theorem Bg.meet (hs : ∀ x y, cl x y = cl y x) {a b c : List α} (ha : Bg idf cl a c) (hb : Bg idf cl b c) : Bg idf cl b (a ++ others idf a b) ∧ Bg idf cl (a ++ others idf a b) c := by
  have hr := ha.1.meet hb.1
  have key : ∀ o ∈ b, idf o ∈ a.map idf → o ∈ a := fun o ho hi => by
    obtain ⟨z, hz, e⟩ := List.mem_map.1 hi
    rw [ha.2.1.inj (hb.2.2.1 o ho) (ha.2.2.1 z hz) e.symm]
    exact hz
  have hout : ∀ o ∈ a ++ others idf a b, o ∈ c := fun o ho => by
    rcases List.mem_append.1 ho with ho | ho
    · exact ha.2.2.1 o ho
    · exact hb.2.2.1 o (mem_others.1 ho).1
  refine ⟨⟨hb.1, hr, fun o ho => ?_, fun x o hbf hc ho => ?_⟩, hr, ha.2.1, hout, fun x o hbf hc ho => ?_⟩
  · by_cases hi : idf o ∈ a.map idf
    · exact List.mem_append_left _ (key o ho hi)
    · exact List.mem_append_right _ (mem_others.2 ⟨ho, hi⟩)
  · -- x is ahead of o in c, too
    rw [bef_append] at hbf
    rcases hbf with hbf | ⟨hx, ho2⟩ | hbf
    · have hxa := (bef_mem hbf).1
      have hoa := (bef_mem hbf).2
      have hne := bef_ne ha.1.nodup hbf
      rcases bef_total (ha.2.2.1 x hxa) (ha.2.2.1 o hoa) hne with k | k
      · exact hb.2.2.2 x o k hc ho
      · exact absurd (ha.2.2.2 o x k (by rw [hs]; exact hc) hxa) (bef_anti ha.1.nodup hbf)
    · have hne : x ≠ o := by
        rintro rfl
        exact (mem_others.1 ho2).2 (List.mem_map_of_mem hx)
      rcases bef_total (ha.2.2.1 x hx) (hb.2.2.1 o ho) hne with k | k
      · exact hb.2.2.2 x o k hc ho
      · exact absurd (ha.2.2.2 o x k (by rw [hs]; exact hc) hx) (fun hh => (mem_others.1 ho2).2 (List.mem_map_of_mem (bef_mem hh).1))
    · unfold others at hbf
      exact ((bef_filter _ _ _ _).1 hbf).1
  · rw [bef_append]
    by_cases hoa : o ∈ a
    · exact .inl (ha.2.2.2 x o hbf hc hoa)
    · have ho2 : o ∈ others idf a b := (List.mem_append.1 ho).resolve_left hoa
      have hbb := hb.2.2.2 x o hbf hc (mem_others.1 ho2).1
      by_cases hxa : x ∈ a
      · exact .inr (.inl ⟨hxa, ho2⟩)
      · refine .inr (.inr ?_)
        unfold others
        exact (bef_filter _ _ _ _).2 ⟨hbb, by simpa using fun z hz e => hxa (key x (bef_mem hbb).1 (by rw [← e]; exact List.mem_map_of_mem hz)), by simpa using (mem_others.1 ho2).2⟩
end
end Go.My
