/- What a set of places leads to. -/
import Derived.Test.YtcjofakhefpfdaaKnU
import Derived.Shelf.SortM.SortNone
namespace Go.Proofs.Ytcjofakhefpfdaa
open Go.RowKit Go.My Go.Maps
set_option linter.unusedSimpArgs false
set_option linter.unusedVariables false
attribute [local go_sem ↓] Go.wp_at_zero Go.wp_at_succ

/-- reached from the start by one step or more -/
inductive Led (P : List (List Int)) (start : List Int) : Int → Prop
  | first {s x : Int} : s ∈ start → x ∈ gat P s.toNat → Led P start x
  | next {y x : Int} : Led P start y → x ∈ gat P y.toNat → Led P start x
def Pl (P : List (List Int)) : Prop := ∀ k, ∀ x ∈ gat P k, 0 ≤ x ∧ x < P.length
theorem Led.inR {P : List (List Int)} {start : List Int} {x : Int} (h : Led P start x) (hP : Pl P) : 0 ≤ x ∧ x < P.length := by
  cases h with
  | first _ h => exact hP _ _ h
  | next _ h => exact hP _ _ h

/-- the stack and the list, while the first j of v's are done -/
structure SpI (P : List (List Int)) (start st l : List Int) (v : Int) (j : Nat) : Prop where
  nd : l.Nodup
  led : ∀ x ∈ l, Led P start x
  src : ∀ x ∈ st, x ∈ start ∨ x ∈ l
  at_ : v ∈ start ∨ v ∈ l
  cls : ∀ y, y ∈ start ∨ y ∈ l → y ∈ st ∨ (y = v ∧ ∀ x ∈ (gat P v.toNat).take j, x ∈ l) ∨ ∀ x ∈ gat P y.toNat, x ∈ l
  len : st.length ≤ start.length + l.length
structure SpC (P : List (List Int)) (start st l : List Int) : Prop where
  nd : l.Nodup
  led : ∀ x ∈ l, Led P start x
  src : ∀ x ∈ st, x ∈ start ∨ x ∈ l
  cls : ∀ y, y ∈ start ∨ y ∈ l → y ∈ st ∨ ∀ x ∈ gat P y.toNat, x ∈ l
  len : st.length ≤ start.length + l.length
theorem SpC.begin (P : List (List Int)) (start : List Int) : SpC P start start [] where
  nd := List.nodup_nil
  led x h := by cases h
  src x h := .inl h
  cls y h := .inl (h.elim id fun h => by cases h)
  len := Nat.le_add_right _ _
theorem SpC.pop {P : List (List Int)} {start st l : List Int} {v : Int} (h : SpC P start (st ++ [v]) l) : SpI P start st l v 0 where
  nd := h.nd
  led := h.led
  src x hx := h.src x (List.mem_append.2 (.inl hx))
  at_ := h.src v (by simp)
  cls y hy := by
    rcases h.cls y hy with h1 | h1
    · rcases List.mem_append.1 h1 with h2 | h2
      · exact .inl h2
      · exact .inr (.inl ⟨by simpa using h2, fun x hx => by simp at hx⟩)
    · exact .inr (.inr h1)
  len := by have := h.len; simp only [List.length_append, List.length_singleton] at this; omega
theorem SpI.done {P : List (List Int)} {start st l : List Int} {v : Int} (h : SpI P start st l v (gat P v.toNat).length) : SpC P start st l where
  nd := h.nd
  led := h.led
  src := h.src
  cls y hy := by
    rcases h.cls y hy with h1 | ⟨rfl, h1⟩ | h1
    · exact .inl h1
    · rw [List.take_length] at h1
      exact .inr h1
    · exact .inr h1
  len := h.len
theorem SpI.skip {P : List (List Int)} {start st l : List Int} {v : Int} {j : Nat} (h : SpI P start st l v j) (hj : j < (gat P v.toNat).length) (hm : (gat P v.toNat)[j] ∈ l) : SpI P start st l v (j + 1) where
  nd := h.nd
  led := h.led
  src := h.src
  at_ := h.at_
  cls y hy := by
    rcases h.cls y hy with h1 | ⟨e, h1⟩ | h1
    · exact .inl h1
    · refine .inr (.inl ⟨e, fun x hx => ?_⟩)
      rw [List.take_succ_eq_append_getElem hj] at hx
      rcases List.mem_append.1 hx with h2 | h2
      · exact h1 x h2
      · rw [List.mem_singleton.1 h2]
        exact hm
    · exact .inr (.inr h1)
  len := h.len
theorem SpI.push {P : List (List Int)} {start st l : List Int} {v : Int} {j : Nat} (h : SpI P start st l v j) (hj : j < (gat P v.toNat).length) (hm : (gat P v.toNat)[j] ∉ l) :
    SpI P start (st ++ [(gat P v.toNat)[j]]) (l ++ [(gat P v.toNat)[j]]) v (j + 1) where
  nd := List.nodup_append.2 ⟨h.nd, by simp, fun a ha b hb e => hm (by rw [List.mem_singleton.1 hb] at e; rw [← e]; exact ha)⟩
  led x hx := by
    rcases List.mem_append.1 hx with h2 | h2
    · exact h.led x h2
    · rw [List.mem_singleton.1 h2]
      rcases h.at_ with h3 | h3
      · exact .first h3 (List.getElem_mem hj)
      · exact .next (h.led v h3) (List.getElem_mem hj)
  src x hx := by
    rcases List.mem_append.1 hx with h2 | h2
    · exact (h.src x h2).imp id fun h => List.mem_append.2 (.inl h)
    · exact .inr (List.mem_append.2 (.inr h2))
  at_ := h.at_.imp id fun h => List.mem_append.2 (.inl h)
  cls y hy := by
    have hy2 : (y ∈ start ∨ y ∈ l) ∨ y = (gat P v.toNat)[j] := by
      rcases hy with h1 | h1
      · exact .inl (.inl h1)
      · rcases List.mem_append.1 h1 with h2 | h2
        · exact .inl (.inr h2)
        · exact .inr (List.mem_singleton.1 h2)
    rcases hy2 with hy2 | hy2
    · rcases h.cls y hy2 with h1 | ⟨e, h1⟩ | h1
      · exact .inl (List.mem_append.2 (.inl h1))
      · refine .inr (.inl ⟨e, fun x hx => ?_⟩)
        rw [List.take_succ_eq_append_getElem hj] at hx
        rcases List.mem_append.1 hx with h2 | h2
        · exact List.mem_append.2 (.inl (h1 x h2))
        · exact List.mem_append.2 (.inr h2)
      · exact .inr (.inr fun x hx => List.mem_append.2 (.inl (h1 x hx)))
    · exact .inl (List.mem_append.2 (.inr (by rw [hy2]; simp)))
  len := by have := h.len; simp only [List.length_append, List.length_singleton]; omega
theorem SpC.all {P : List (List Int)} {start l : List Int} (h : SpC P start [] l) (x : Int) : x ∈ l ↔ Led P start x := by
  refine ⟨h.led x, fun hx => ?_⟩
  have hc : ∀ y, y ∈ start ∨ y ∈ l → ∀ x ∈ gat P y.toNat, x ∈ l := fun y hy => (h.cls y hy).elim (fun h => by cases h) id
  induction hx with
  | first hs h1 => exact hc _ (.inl hs) _ h1
  | next _ h1 ih => exact hc _ (.inr ih) _ h1
theorem len_sub {l m : List Nat} (hd : l.Nodup) (hs : ∀ x ∈ l, x ∈ m) : l.length ≤ m.length := by
  induction l generalizing m with
  | nil => simp
  | cons a l ih =>
    rw [List.nodup_cons] at hd
    have hm := hs a (by simp)
    have h1 := ih (m := m.erase a) hd.2 fun x hx => (List.mem_erase_of_ne (fun (e : x = a) => hd.1 (by rw [← e]; exact hx))).2 (hs x (List.mem_cons_of_mem _ hx))
    rw [List.length_erase_of_mem hm] at h1
    have := List.length_pos_of_mem hm
    rw [List.length_cons]
    omega
/-- doubles apart, within n: no more than n -/
theorem nodup_le {l : List Int} {n : Nat} (hd : l.Nodup) (hr : ∀ x ∈ l, 0 ≤ x ∧ x < n) : l.length ≤ n := by
  have h1 : (l.map Int.toNat).Nodup := by
    have : ∀ (l : List Int), l.Nodup → (∀ x ∈ l, 0 ≤ x) → (l.map Int.toNat).Nodup := by
      intro l
      induction l with
      | nil => intros; simp
      | cons a l ih =>
        intro hd h0
        rw [List.nodup_cons] at hd
        rw [List.map_cons, List.nodup_cons]
        refine ⟨fun hm => ?_, ih hd.2 fun x hx => h0 x (List.mem_cons_of_mem _ hx)⟩
        obtain ⟨b, hb, e⟩ := List.mem_map.1 hm
        have h1 := h0 b (List.mem_cons_of_mem _ hb)
        have h2 := h0 a (by simp)
        have : b = a := by omega
        exact hd.1 (this ▸ hb)
    exact this l hd fun x hx => (hr x hx).1
  have h2 : ∀ k ∈ l.map Int.toNat, k ∈ List.range n := fun k hk => by
    obtain ⟨b, hb, e⟩ := List.mem_map.1 hk
    have := hr b hb
    rw [List.mem_range]
    omega
  have h3 := len_sub h1 h2
  simpa using h3

/-! ### copies of a row -/
theorem cloneI_any (F : Nat → Prop) (A : Option Addr) (c : Nat) (l : List Int) (w : World) (hr : Rd w F 1 A l.length (is_ l)) (hl : l.length ≤ 1000000) :
    Calls Try.prog 32 #[.slice A l.length c] w (RetOwn w 3 1 none l.length (is_ l)) := by
  have hnil := fun W => Lib.run_eql_slice_nil (P := Try.prog) W 26 3 A l.length c 0 0 Try.underlying26
  rcases A with _ | ad
  · have hl0 : l.length = 0 := by
      rcases Nat.eq_zero_or_pos l.length with h0 | h0
      · exact h0
      · obtain ⟨ad, h, _⟩ := hr.2 h0
        cases h
    have : l = [] := List.eq_nil_of_length_eq_zero hl0
    subst this
    simp only [Option.isNone_none, List.length_nil] at hnil
    clear hr
    go_enter Try.func32, Try.ntmps32
    go_wp2
    go_ret
    exact ⟨_, rfl, Own.nil _ _ _, Fr.refl _ _, .inl rfl⟩
  · simp only [Option.isNone_some] at hnil
    have hmt : Own (w.alloc (.cells #[] 3)) 3 1 (.slice (some ⟨w.heap.size, 0, none⟩) 0 0) 0 [] := ⟨by simp, .inr ⟨w.heap.size, 0, #[], rfl, heap_alloc_new w _, by omega, by simp only [maxLen]; omega, by simp, by simp⟩⟩
    have hsrc : Src Try.prog (w.alloc (.cells #[] 3)) 1 26 (.slice (some ad) l.length c) l.length (is_ l) :=
      Src.of_rd (hr.fr (S := No) (by omega) ((Fr.refl _ _).alloc _) (fun _ _ _ h => h)) (is_ones l) Try.underlying26
    have HM := Lib.hid hmt
    have HR := Lib.hid hsrc
    have HS := Lib.hid hl
    clear hr hmt hsrc hl
    go_enter Try.func32, Try.ntmps32
    go_wp2_with (at_builtin; refine wpList_app _ rfl (.tmp 5) (.tmp 6) 26 26 rfl elI HM.out rfl HR.out rfl (by simp only [maxLen]; have := HS.out; omega) (by have := HS.out; omega) ?_; intro v1 w1 ho1 hf1 hn1)
    go_ret
    rw [Nat.zero_add, List.nil_append] at ho1
    refine ⟨v1, rfl, ho1, ?_, ?_⟩
    · exact (((Fr.refl No w).alloc (.cells #[] 3)).trans' hf1 (fun i hi hlt => by
        simp only [AtO, Value.ownBlock, Option.some.injEq] at hi
        omega)).mono fun _ _ h => False.elim h
    · rcases hn1 with h1 | h1
      · rw [h1]
        exact .inr ⟨_, rfl, Nat.le_refl _⟩
      · rw [h1, World.size_alloc]
        exact .inr ⟨_, rfl, by omega⟩
theorem own_pop {w : World} {t : TypeId} {A : Option Addr} {n c : Nat} {xs : List Value} {x : Value} (h : Own w t 1 (.slice A (n + 1) c) (n + 1) (xs ++ [x])) : Own w t 1 (.slice A n c) n xs := by
  have hl := h.1
  simp only [List.length_append, List.length_singleton, Nat.mul_one] at hl
  obtain ⟨g, c', cur, hv, hg, h1, h2, h3, h4⟩ := h.formPos (by omega)
  injection hv with hA _ hc
  subst hA hc
  refine ⟨by omega, .inr ⟨g, c, cur, rfl, hg, by omega, h2, h3, ?_⟩⟩
  have h5 : (cur.toList.take ((n + 1) * 1)).take n = xs := by rw [h4, List.take_append_of_le_length (by omega), List.take_of_length_le (by omega)]
  rw [List.take_take] at h5
  rw [Nat.mul_one]
  simpa [Nat.min_eq_left (Nat.le_succ n)] using h5
end Go.Proofs.Ytcjofakhefpfdaa
