/- What a set of places leads to. What a set of places leads to: the walk. spread. Reach. Open. -/
import Derived.Test.YtcpgamidimfflaaGreatQ03
import Derived.Shelf.SortM.SortNone
namespace Go.Proofs.YtcpgamidimfflaaGreat
open Go.RowKit Go.My Go.Maps
set_option linter.unusedSimpArgs false
set_option linter.unusedVariables false
attribute [local go_sem ↓] Go.wp_at_zero Go.wp_at_succ
inductive Led (P : List (List Int)) (start : List Int) : Int → Prop
  | first {s x : Int} : s ∈ start → x ∈ gat P s.toNat → Led P start x
  | next {y x : Int} : Led P start y → x ∈ gat P y.toNat → Led P start x
def PlK (P : List (List Int)) : Prop := ∀ k, ∀ x ∈ gat P k, 0 ≤ x ∧ x < P.length
theorem Led.inR {P : List (List Int)} {start : List Int} {x : Int} (h : Led P start x) (hP : PlK P) : 0 ≤ x ∧ x < P.length := by
  cases h with
  | first _ h => exact hP _ _ h
  | next _ h => exact hP _ _ h
structure SpI (P : List (List Int)) (start st l : List Int) (v : Int) (j : Nat) : Prop where
  nd : l.Nodup
  led : ∀ x ∈ l, Led P start x
  src : ∀ x ∈ st, x ∈ start ∨ x ∈ l
  at_ : v ∈ start ∨ v ∈ l
  cls : ∀ y, y ∈ start ∨ y ∈ l → y ∈ st ∨ (y = v ∧ ∀ x ∈ (gat P v.toNat).take j, x ∈ l) ∨ ∀ x ∈ gat P y.toNat, x ∈ l
  len : st.length ≤ start.length + l.length
structure SpC (P : List (List Int)) (start st l : List Int) : Prop where
  nd : l.Nodup
  led : ∀ x ∈ l, Led P start x
  src : ∀ x ∈ st, x ∈ start ∨ x ∈ l
  cls : ∀ y, y ∈ start ∨ y ∈ l → y ∈ st ∨ ∀ x ∈ gat P y.toNat, x ∈ l
  len : st.length ≤ start.length + l.length
theorem SpC.begin (P : List (List Int)) (start : List Int) : SpC P start start [] where
  nd := List.nodup_nil
  led x h := by cases h
  src x h := .inl h
  cls y h := .inl (h.elim id fun h => by cases h)
  len := Nat.le_add_right _ _
theorem SpC.pop {P : List (List Int)} {start st l : List Int} {v : Int} (h : SpC P start (st ++ [v]) l) : SpI P start st l v 0 where
  nd := h.nd
  led := h.led
  src x hx := h.src x (List.mem_append.2 (.inl hx))
  at_ := h.src v (by simp)
  cls y hy := by
    rcases h.cls y hy with h1 | h1
    · rcases List.mem_append.1 h1 with h2 | h2
      · exact .inl h2
      · exact .inr (.inl ⟨by simpa using h2, fun x hx => by simp at hx⟩)
    · exact .inr (.inr h1)
  len := by have := h.len; simp only [List.length_append, List.length_singleton] at this; omega
theorem SpI.done {P : List (List Int)} {start st l : List Int} {v : Int} (h : SpI P start st l v (gat P v.toNat).length) : SpC P start st l where
  nd := h.nd
  led := h.led
  src := h.src
  cls y hy := by
    rcases h.cls y hy with h1 | ⟨rfl, h1⟩ | h1
    · exact .inl h1
    · rw [List.take_length] at h1
      exact .inr h1
    · exact .inr h1
  len := h.len
theorem SpI.skip {P : List (List Int)} {start st l : List Int} {v : Int} {j : Nat} (h : SpI P start st l v j) (hj : j < (gat P v.toNat).length) (hm : (gat P v.toNat)[j] ∈ l) : SpI P start st l v (j + 1) where
  nd := h.nd
  led := h.led
  src := h.src
  at_ := h.at_
  cls y hy := by
    rcases h.cls y hy with h1 | ⟨e, h1⟩ | h1
    · exact .inl h1
    · refine .inr (.inl ⟨e, fun x hx => ?_⟩)
      rw [List.take_succ_eq_append_getElem hj] at hx
      rcases List.mem_append.1 hx with h2 | h2
      · exact h1 x h2
      · rw [List.mem_singleton.1 h2]
        exact hm
    · exact .inr (.inr h1)
  len := h.len
theorem SpI.push {P : List (List Int)} {start st l : List Int} {v : Int} {j : Nat} (h : SpI P start st l v j) (hj : j < (gat P v.toNat).length) (hm : (gat P v.toNat)[j] ∉ l) :
    SpI P start (st ++ [(gat P v.toNat)[j]]) (l ++ [(gat P v.toNat)[j]]) v (j + 1) where
  nd := List.nodup_append.2 ⟨h.nd, by simp, fun a ha b hb e => hm (by rw [List.mem_singleton.1 hb] at e; rw [← e]; exact ha)⟩
  led x hx := by
    rcases List.mem_append.1 hx with h2 | h2
    · exact h.led x h2
    · rw [List.mem_singleton.1 h2]
      rcases h.at_ with h3 | h3
      · exact .first h3 (List.getElem_mem hj)
      · exact .next (h.led v h3) (List.getElem_mem hj)
  src x hx := by
    rcases List.mem_append.1 hx with h2 | h2
    · exact (h.src x h2).imp id fun h => List.mem_append.2 (.inl h)
    · exact .inr (List.mem_append.2 (.inr h2))
  at_ := h.at_.imp id fun h => List.mem_append.2 (.inl h)
  cls y hy := by
    have hy2 : (y ∈ start ∨ y ∈ l) ∨ y = (gat P v.toNat)[j] := by
      rcases hy with h1 | h1
      · exact .inl (.inl h1)
      · rcases List.mem_append.1 h1 with h2 | h2
        · exact .inl (.inr h2)
        · exact .inr (List.mem_singleton.1 h2)
    rcases hy2 with hy2 | hy2
    · rcases h.cls y hy2 with h1 | ⟨e, h1⟩ | h1
      · exact .inl (List.mem_append.2 (.inl h1))
      · refine .inr (.inl ⟨e, fun x hx => ?_⟩)
        rw [List.take_succ_eq_append_getElem hj] at hx
        rcases List.mem_append.1 hx with h2 | h2
        · exact List.mem_append.2 (.inl (h1 x h2))
        · exact List.mem_append.2 (.inr h2)
      · exact .inr (.inr fun x hx => List.mem_append.2 (.inl (h1 x hx)))
    · exact .inl (List.mem_append.2 (.inr (by rw [hy2]; simp)))
  len := by have := h.len; simp only [List.length_append, List.length_singleton]; omega
theorem SpC.all {P : List (List Int)} {start l : List Int} (h : SpC P start [] l) (x : Int) : x ∈ l ↔ Led P start x := by
  refine ⟨h.led x, fun hx => ?_⟩
  have hc : ∀ y, y ∈ start ∨ y ∈ l → ∀ x ∈ gat P y.toNat, x ∈ l := fun y hy => (h.cls y hy).elim (fun h => by cases h) id
  induction hx with
  | first hs h1 => exact hc _ (.inl hs) _ h1
  | next _ h1 ih => exact hc _ (.inr ih) _ h1
theorem len_sub {l m : List Nat} (hd : l.Nodup) (hs : ∀ x ∈ l, x ∈ m) : l.length ≤ m.length := by
  induction l generalizing m with
  | nil => simp
  | cons a l ih =>
    rw [List.nodup_cons] at hd
    have hm := hs a (by simp)
    have h1 := ih (m := m.erase a) hd.2 fun x hx => (List.mem_erase_of_ne (fun (e : x = a) => hd.1 (by rw [← e]; exact hx))).2 (hs x (List.mem_cons_of_mem _ hx))
    rw [List.length_erase_of_mem hm] at h1
    have := List.length_pos_of_mem hm
    rw [List.length_cons]
    omega
theorem nodup_le {l : List Int} {n : Nat} (hd : l.Nodup) (hr : ∀ x ∈ l, 0 ≤ x ∧ x < n) : l.length ≤ n := by
  have h1 : (l.map Int.toNat).Nodup := by
    have : ∀ (l : List Int), l.Nodup → (∀ x ∈ l, 0 ≤ x) → (l.map Int.toNat).Nodup := by
      intro l
      induction l with
      | nil => intros; simp
      | cons a l ih =>
        intro hd h0
        rw [List.nodup_cons] at hd
        rw [List.map_cons, List.nodup_cons]
        refine ⟨fun hm => ?_, ih hd.2 fun x hx => h0 x (List.mem_cons_of_mem _ hx)⟩
        obtain ⟨b, hb, e⟩ := List.mem_map.1 hm
        have h1 := h0 b (List.mem_cons_of_mem _ hb)
        have h2 := h0 a (by simp)
        have : b = a := by omega
        exact hd.1 (this ▸ hb)
    exact this l hd fun x hx => (hr x hx).1
  have h2 : ∀ k ∈ l.map Int.toNat, k ∈ List.range n := fun k hk => by
    obtain ⟨b, hb, e⟩ := List.mem_map.1 hk
    have := hr b hb
    rw [List.mem_range]
    omega
  have h3 := len_sub h1 h2
  simpa using h3
theorem cloneI_any (F : Nat → Prop) (A : Option Addr) (c : Nat) (l : List Int) (w : World) (hr : Rd w F 1 A l.length (is_ l)) (hl : l.length ≤ 1000000) :
    Calls Tryz.prog 165 #[.slice A l.length c] w (RetOwn w 3 1 none l.length (is_ l)) := by
  have hnil := fun W => Lib.run_eql_slice_nil (P := Tryz.prog) W 66 3 A l.length c 0 0 Tryz.underlying66
  rcases A with _ | ad
  · have hl0 : l.length = 0 := by
      rcases Nat.eq_zero_or_pos l.length with h0 | h0
      · exact h0
      · obtain ⟨ad, h, _⟩ := hr.2 h0
        cases h
    have : l = [] := List.eq_nil_of_length_eq_zero hl0
    subst this
    simp only [Option.isNone_none, List.length_nil] at hnil
    clear hr
    go_enter Tryz.func165, Tryz.ntmps165
    go_wp2
    go_ret
    exact ⟨_, rfl, Own.nil _ _ _, Fr.refl _ _, .inl rfl⟩
  · simp only [Option.isNone_some] at hnil
    have hmt : Own (w.alloc (.cells #[] 3)) 3 1 (.slice (some ⟨w.heap.size, 0, none⟩) 0 0) 0 [] := ⟨by simp, .inr ⟨w.heap.size, 0, #[], rfl, heap_alloc_new w _, by omega, by simp only [maxLen]; omega, by simp, by simp⟩⟩
    have hsrc : Src Tryz.prog (w.alloc (.cells #[] 3)) 1 66 (.slice (some ad) l.length c) l.length (is_ l) :=
      Src.of_rd (hr.fr (S := No) (by omega) ((Fr.refl _ _).alloc _) (fun _ _ _ h => h)) (is_ones l) Tryz.underlying66
    have HM := Lib.hid hmt
    have HR := Lib.hid hsrc
    have HS := Lib.hid hl
    clear hr hmt hsrc hl
    go_enter Tryz.func165, Tryz.ntmps165
    go_wp2_with (at_builtin; refine wpList_app _ rfl (.tmp 5) (.tmp 6) 66 66 rfl elKI HM.out rfl HR.out rfl (by simp only [maxLen]; have := HS.out; omega) (by have := HS.out; omega) ?_; intro v1 w1 ho1 hf1 hn1)
    go_ret
    rw [Nat.zero_add, List.nil_append] at ho1
    refine ⟨v1, rfl, ho1, ?_, ?_⟩
    · exact (((Fr.refl No w).alloc (.cells #[] 3)).trans' hf1 (fun i hi hlt => by
        simp only [AtO, Value.ownBlock, Option.some.injEq] at hi
        omega)).mono fun _ _ h => False.elim h
    · rcases hn1 with h1 | h1
      · rw [h1]
        exact .inr ⟨_, rfl, Nat.le_refl _⟩
      · rw [h1, World.size_alloc]
        exact .inr ⟨_, rfl, by omega⟩
theorem own_pop {w : World} {t : TypeId} {A : Option Addr} {n c : Nat} {xs : List Value} {x : Value} (h : Own w t 1 (.slice A (n + 1) c) (n + 1) (xs ++ [x])) : Own w t 1 (.slice A n c) n xs := by
  have hl := h.1
  simp only [List.length_append, List.length_singleton, Nat.mul_one] at hl
  obtain ⟨g, c', cur, hv, hg, h1, h2, h3, h4⟩ := h.formPos (by omega)
  injection hv with hA _ hc
  subst hA hc
  refine ⟨by omega, .inr ⟨g, c, cur, rfl, hg, by omega, h2, h3, ?_⟩⟩
  have h5 : (cur.toList.take ((n + 1) * 1)).take n = xs := by rw [h4, List.take_append_of_le_length (by omega), List.take_of_length_le (by omega)]
  rw [List.take_take] at h5
  rw [Nat.mul_one]
  simpa [Nat.min_eq_left (Nat.le_succ n)] using h5
end Go.Proofs.YtcpgamidimfflaaGreat
namespace Go.Proofs.YtcpgamidimfflaaGreat
open Go.RowKit Go.My Go.Maps
set_option linter.unusedSimpArgs false
set_option linter.unusedVariables false
attribute [local go_sem ↓] Go.wp_at_zero Go.wp_at_succ
theorem elBo : El Tryz.prog 108 4 1 1 := ⟨Tryz.underlying108, by
  have h : (Tryz.prog.info? 4).map (fun i => (i.zero, i.size, i.bytes)) = some (some (.bool false), 1, 1) := by kernel_rfl
  obtain ⟨i, hi, hz, hs, hb⟩ := info_parts h
  exact ⟨i, _, hi, hz, hs, hb, rfl⟩, by omega⟩
theorem zeroBo : ∀ i, Tryz.prog.info? 4 = some i → i.zero = some (.bool false) := fun i hi => by
  have h : (Tryz.prog.info? 4).map (fun i => i.zero) = some (some (.bool false)) := by kernel_rfl
  rw [hi] at h
  simpa using h
def bo (n : Nat) (l : List Int) : List Value := (List.range n).map fun (k : Nat) => Value.bool (l.contains (k : Int))
theorem bo_len (n : Nat) (l : List Int) : (bo n l).length = n := by simp [bo]
theorem bo_at (n : Nat) (l : List Int) (k : Nat) (h : k < n) : (bo n l)[k]? = some (.bool (l.contains (k : Int))) := by simp [bo, h]
theorem bo_nil (n : Nat) : bo n [] = zrow n (.bool false) := by
  apply List.ext_getElem?
  intro k
  unfold bo zrow
  by_cases h : k < n
  · simp [h]
  · simp [h]
theorem bo_set (n : Nat) (l : List Int) (k : Nat) (h : k < n) : (bo n l).set k (.bool true) = bo n (l ++ [(k : Int)]) := by
  apply List.ext_getElem?
  intro i
  by_cases hi : i < n
  · by_cases e : i = k
    · subst e
      rw [List.getElem?_set_self (by rw [bo_len]; exact hi), bo_at _ _ _ hi]
      simp
    · rw [List.getElem?_set_ne (fun e2 => e e2.symm), bo_at _ _ _ hi, bo_at _ _ _ hi]
      have : ¬ ((i : Int) = (k : Int)) := by omega
      simp [this]
  · rw [List.getElem?_eq_none (by rw [List.length_set, bo_len]; omega), List.getElem?_eq_none (by rw [bo_len]; omega)]
def slen : Value → Nat
  | .slice _ n _ => n
  | _ => 0
theorem ob_len (A : Option Addr) (n m c d : Nat) : (Value.slice A n c).ownBlock = (Value.slice A m d).ownBlock := by cases A <;> rfl
structure SpM (w wr : World) (n : Nat) (st l : List Int) (A : Option Addr) (c : Nat) (B : Option Addr) (d : Nat) : Prop where
  so : Own wr 3 1 (.slice A st.length c) st.length (is_ st)
  lo : Own wr 3 1 (.slice B l.length d) l.length (is_ l)
  bb : Own wr 4 1 (.slice (some ⟨w.heap.size, 0, none⟩) n n) n (bo n l)
  sn : ∀ k, (Value.slice A st.length c).ownBlock = some k → w.heap.size ≤ k
  ln : ∀ k, (Value.slice B l.length d).ownBlock = some k → w.heap.size ≤ k
  ap : ∀ k, (Value.slice A st.length c).ownBlock = some k → (Value.slice B l.length d).ownBlock ≠ some k
  f : Fr No w wr
theorem SpM.pop {w wr : World} {n : Nat} {st l : List Int} {v : Int} {A : Option Addr} {c : Nat} {B : Option Addr} {d : Nat} (h : SpM w wr n (st ++ [v]) l A c B d) : SpM w wr n st l A c B d where
  so := own_pop (x := .int .i64 v) (by have := h.so; rw [is_append, List.length_append] at this; exact this)
  lo := h.lo
  bb := h.bb
  sn k hk := h.sn k (by rw [ob_len A _ st.length _ c]; exact hk)
  ln := h.ln
  ap k hk := h.ap k (by rw [ob_len A _ st.length _ c]; exact hk)
  f := h.f
theorem SpM.push {w wr w2 w3 : World} {n : Nat} {st l : List Int} {k : Nat} {A A2 A3 : Option Addr} {c c2 c3 : Nat} {B : Option Addr} {d : Nat} {o1 o2 : Obj} (h : SpM w wr n st l A c B d) (hk : k < n)
    (h2 : Own w2 3 1 (.slice A2 (st.length + 1) c2) (st.length + 1) (is_ st ++ [.int .i64 (k : Int)]))
    (f2 : Fr (AtO (Value.slice A st.length c).ownBlock) ((wr.setCell ⟨w.heap.size, k, none⟩ (.bool true)).alloc o1) w2)
    (n2 : (Value.slice A2 (st.length + 1) c2).ownBlock = (Value.slice A st.length c).ownBlock ∨ (Value.slice A2 (st.length + 1) c2).ownBlock = some ((wr.setCell ⟨w.heap.size, k, none⟩ (.bool true)).alloc o1).heap.size)
    (h3 : Own w3 3 1 (.slice A3 (l.length + 1) c3) (l.length + 1) (is_ l ++ [.int .i64 (k : Int)]))
    (f3 : Fr (AtO (Value.slice B l.length d).ownBlock) (w2.alloc o2) w3)
    (n3 : (Value.slice A3 (l.length + 1) c3).ownBlock = (Value.slice B l.length d).ownBlock ∨ (Value.slice A3 (l.length + 1) c3).ownBlock = some (w2.alloc o2).heap.size) :
    SpM w w3 n (st ++ [(k : Int)]) (l ++ [(k : Int)]) A2 c2 A3 c3 := by
  have hb := (h.bb.store k hk (.bool true)).1
  rw [bo_set n l k hk] at hb
  have hsz0 := h.f.size
  have hsz1 : ((wr.setCell ⟨w.heap.size, k, none⟩ (.bool true)).alloc o1).heap.size = wr.heap.size + 1 := by rw [World.size_alloc, World.size_setCell]
  have hsz2 := f2.size
  have hsz3 : (w2.alloc o2).heap.size = w2.heap.size + 1 := World.size_alloc _ _
  obtain ⟨cur, hcur⟩ := h.bb.blk w.heap.size rfl
  have sne : (Value.slice A st.length c).ownBlock ≠ some w.heap.size := h.so.ne_ hcur (by decide)
  have lne : (Value.slice B l.length d).ownBlock ≠ some w.heap.size := h.lo.ne_ hcur (by decide)
  have hl1 : Own ((wr.setCell ⟨w.heap.size, k, none⟩ (.bool true)).alloc o1) 3 1 (.slice B l.length d) l.length (is_ l) := (h.lo.setCell (p := ⟨w.heap.size, k, none⟩) lne _).alloc _
  have hb2 := (hb.alloc o1).fr f2 fun i hi hS => sne (by injection hi with hi; subst hi; exact hS)
  have hb3 := (hb2.alloc o2).fr f3 fun i hi hS => lne (by injection hi with hi; subst hi; exact hS)
  have hap : ∀ i, (Value.slice A2 (st.length + 1) c2).ownBlock = some i → (Value.slice B l.length d).ownBlock ≠ some i := fun i hi e => by
    rcases n2 with n2 | n2
    · exact h.ap i (n2 ▸ hi) e
    · rw [n2] at hi
      injection hi with hi
      have := h.lo.lt i e
      omega
  have hs3 := (h2.alloc o2).fr f3 fun i hi hS => hap i hi hS
  have hnew2 : ∀ i, (Value.slice A2 (st.length + 1) c2).ownBlock = some i → w.heap.size ≤ i := fun i hi => by
    rcases n2 with n2 | n2
    · exact h.sn i (n2 ▸ hi)
    · rw [n2] at hi
      injection hi with hi
      omega
  refine ⟨?_, ?_, hb3, fun i hi => hnew2 i (by rw [ob_len A2 _ (st ++ [(k : Int)]).length _ c2]; exact hi), fun i hi => ?_, fun i hi e => ?_, ?_⟩
  · rw [is_append, List.length_append]
    exact hs3
  · rw [is_append, List.length_append]
    exact h3
  · rw [ob_len A3 _ (l.length + 1) _ c3] at hi
    rcases n3 with n3 | n3
    · exact h.ln i (n3 ▸ hi)
    · rw [n3] at hi
      injection hi with hi
      omega
  · rw [ob_len A2 _ (st.length + 1) _ c2] at hi
    rw [ob_len A3 _ (l.length + 1) _ c3] at e
    rcases n3 with n3 | n3
    · exact hap i hi (n3 ▸ e)
    · rw [n3] at e
      injection e with e
      have := h2.lt i hi
      omega
  · have g1 : Fr No w ((wr.setCell ⟨w.heap.size, k, none⟩ (.bool true)).alloc o1) := (h.f.trans' (fr_set _ w.heap.size k _) (fun i hi hlt => by
      have : i = w.heap.size := hi
      omega)).alloc _
    have g2 : Fr No w w2 := g1.trans' f2 fun i hi hlt => by
      have := h.sn i hi
      omega
    exact (g2.alloc o2).trans' f3 fun i hi hlt => by
      have := h.ln i hi
      omega
def SpO (w : World) (P : List (List Int)) (start : List Int) (sv lv : Value) (wr : World) : Prop := ∃ (st l : List Int) (A : Option Addr) (c : Nat) (B : Option Addr) (d : Nat), SpC P start st l ∧ SpM w wr P.length st l A c B d ∧ sv = .slice A st.length c ∧ lv = .slice B l.length d
def SpN (w : World) (P : List (List Int)) (start : List Int) (kv M : Nat) (sv lv jv : Value) (wr : World) : Prop := ∃ (st l : List Int) (A : Option Addr) (c : Nat) (B : Option Addr) (d j : Nat), SpI P start st l (kv : Int) j ∧ SpM w wr P.length st l A c B d ∧ sv = .slice A st.length c ∧ lv = .slice B l.length d ∧ jv = .int .i64 j ∧ j ≤ (gat P kv).length ∧ 2 * (P.length - l.length) + st.length ≤ M
def RetX (w : World) (X : Int → Prop) (e : Ending) (w' : World) : Prop := ∃ L : List Int, L.Pairwise (· < ·) ∧ (∀ x, x ∈ L ↔ X x) ∧ RetOwn w 3 1 none L.length (is_ L) e w'
theorem sortI_up {l : List Int} (h : l.Nodup) : (sortI l).Pairwise (· < ·) := by
  have h1 : (sortI l).Pairwise fun x y => decide (x ≤ y) = true := List.pairwise_mergeSort (le := fun x y => decide (x ≤ y)) (by intro a b c; simp only [decide_eq_true_eq]; omega) (by intro a b; simp only [Bool.or_eq_true, decide_eq_true_eq]; omega) l
  have h2 : (sortI l).Nodup := (List.mergeSort_perm l _).nodup_iff.2 h
  refine (h1.and h2).imp fun hab => ?_
  obtain ⟨h3, h4⟩ := hab
  have := of_decide_eq_true h3
  omega
theorem sortI_mem {l : List Int} (x : Int) : x ∈ sortI l ↔ x ∈ l := (List.mergeSort_perm l _).mem_iff
theorem sortI_len (l : List Int) : (sortI l).length = l.length := (List.mergeSort_perm l _).length_eq
end Go.Proofs.YtcpgamidimfflaaGreat
namespace Go.Proofs.YtcpgamidimfflaaGreat
open Go.RowKit Go.My Go.Maps
set_option linter.unusedSimpArgs false
set_option linter.unusedVariables false
attribute [local go_sem ↓] Go.wp_at_zero Go.wp_at_succ
theorem SpM.begin {w w1 : World} {n : Nat} {st : List Int} {A : Option Addr} {c : Nat} (hn : n ≤ 1000000)
    (ho : Own w1 3 1 (.slice A st.length c) st.length (is_ st)) (hf : Fr No (w.alloc (.cells (zrow n (.bool false)).toArray 4)) w1) (hw : Newer (w.alloc (.cells (zrow n (.bool false)).toArray 4)).heap.size none (Value.slice A st.length c).ownBlock) :
    SpM w w1 n st [] A c none 0 where
  so := ho
  lo := Own.nil _ _ _
  bb := by
    rw [bo_nil]
    refine Own.fr (S := No) ?_ hf (fun _ _ h => h)
    exact ⟨by rw [zrow_length]; omega, .inr ⟨w.heap.size, n, _, rfl, heap_alloc_new w _, Nat.le_refl _, by simp only [maxLen]; omega, by simp [zrow_length], by rw [Nat.mul_one]; exact List.take_of_length_le (by simp [zrow_length])⟩⟩
  sn k hk := by
    rcases hw with e | ⟨i, e, hi⟩
    · rw [e] at hk; cases hk
    · rw [e] at hk
      injection hk with hk
      rw [World.size_alloc] at hi
      omega
  ln k hk := by cases hk
  ap k _ e := by cases e
  f := ((Fr.refl No w).alloc _).trans hf
theorem SpM.top {w wr : World} {n : Nat} {st l : List Int} {v : Int} {A : Option Addr} {c : Nat} {B : Option Addr} {d : Nat} (h : SpM w wr n (st ++ [v]) l A c B d) : ∃ ad, A = some ad ∧ wr.cell? (ad.add st.length) = some (.int .i64 v) := by
  obtain ⟨ad, u, e, _, hu, hc⟩ := (h.so.rd).at_ (k := st.length) (by simp)
  rw [is_at _ _ (by simp)] at hu
  injection hu with hu
  subst hu
  refine ⟨ad, e, ?_⟩
  rw [hc]
  simp
theorem SpM.seen {w wr : World} {n : Nat} {st l : List Int} {A : Option Addr} {c : Nat} {B : Option Addr} {d : Nat} (h : SpM w wr n st l A c B d) {k : Nat} (hk : k < n) : wr.cell? ⟨w.heap.size, k, none⟩ = some (.bool (l.contains (k : Int))) ∧ wr.frozen? ⟨w.heap.size, k, none⟩ = false := by
  obtain ⟨ad, u, e, _, hu, hc⟩ := (h.bb.rd).at_ (k := k) hk
  rw [bo_at _ _ _ hk] at hu
  injection hu with hu
  subst hu
  injection e with e
  subst e
  rw [add_zero] at hc
  exact ⟨hc, (h.bb.store k hk (.bool true)).2.2⟩
set_option maxRecDepth 100000 in
set_option maxHeartbeats 2000000 in
theorem spread_any (w : World) (F F2 : Nat → Prop) (A B : Option Addr) (c c2 : Nat) (P : List (List Int)) (start : List Int) (hg : RdG w F A P) (hr : Rd w F2 1 B start.length (is_ start)) (hn : P.length ≤ 1000) (hm : ∀ k, (gat P k).length ≤ 100000000) (hp : PlK P)
    (hs : ∀ x ∈ start, 0 ≤ x ∧ x < P.length) (hsl : start.length ≤ 1000000) :
    Calls Tryz.prog 126 #[.slice A P.length c, .slice B start.length c2] w (RetX w (Led P start)) := by
  have HG := Lib.hid hg
  have HM := Lib.hid hm
  have HP := Lib.hid hp
  have HS := Lib.hid hs
  have hmk := fun W => run_make1 (P := Tryz.prog) elBo zeroBo rfl .i64 .i64 P.length (by omega) (by simp only [maxLen]; omega) W
  have HC : Hid (∀ W, Fr No w W → Calls Tryz.prog 165 #[.slice B start.length c2] W (RetOwn W 3 1 none start.length (is_ start))) := fun W hW => cloneI_any F2 B c2 start W (hr.fr (by omega) hW fun _ _ _ h => h) hsl
  have hfa : Fr No w (w.alloc (.cells (zrow P.length (.bool false)).toArray 4)) := (Fr.refl No w).alloc _
  clear hg hm hp hs hr
  go_enter Tryz.func126, Tryz.ntmps126
  go_wp2_with (go_at_call 165; refine (HC.out _ hfa).mono ?_; rintro _ w1 ⟨v1, rfl, ho1, hf1, hn1⟩; obtain ⟨A1, c1, rfl, -, -⟩ := ho1.form)
  have HB := Lib.hid (SpM.begin (w := w) (n := P.length) (by omega) ho1 (hf1.mono fun _ _ h => by cases h) hn1)
  clear ho1 hf1 hn1 hfa HC hmk
  go_loopw [6, 7] (fun sv lv wr => SpO w P start sv lv wr) (fun sv lv _ => 2 * (P.length - slen lv) + slen sv)
  case atStart => exact ⟨start, [], A1, c1, none, 0, SpC.begin P start, HB.out, rfl, rfl⟩
  case round =>
    obtain ⟨st, l, As, cs, Bl, dl, hC, hM, rfl, rfl⟩ := hrel
    have hll := nodup_le hC.nd fun x hx => (hC.led x hx).inR HP.out
    have hsl2 := hC.len
    rcases List.eq_nil_or_concat st with rfl | ⟨st0, v, rfl⟩
    · have HCC := Lib.hid hC
      have HMM := Lib.hid hM
      clear hC hM
      have hsort : ∀ W, Fr No wr W → Calls Tryz.prog 166 #[.slice Bl l.length dl] W fun e w' => e = .returned (.tuple #[]) ∧ Own w' 3 1 (.slice Bl l.length dl) l.length (is_ (sortI l)) ∧ Fr No w w' := fun W hW => by
        have hown := HMM.out.lo.fr hW fun _ _ h => h
        rcases l with _ | ⟨a, l⟩
        · refine (AnyM.slices_Sort_int_none Tryz.sortI Bl dl W).mono ?_
          rintro e w' ⟨rfl, rfl⟩
          have hz : sortI [] = [] := List.eq_nil_of_length_eq_zero (by rw [sortI_len]; rfl)
          rw [hz]
          exact ⟨rfl, hown, HMM.out.f.trans hW⟩
        · obtain ⟨g, c', cur, hv, hblk, -⟩ := hown.formPos (by simp)
          injection hv with hA _ hc
          subst hA hc
          refine (sortI_any (a :: l) g dl W hown (by simp only [List.length_cons] at hll ⊢; omega)).mono ?_
          rintro e w' ⟨rfl, ho, hf⟩
          refine ⟨rfl, ho, (HMM.out.f.trans hW).trans' hf fun k hk hlt => ?_⟩
          have hk2 : k = g := hk
          have := HMM.out.ln k (by subst hk2; rfl)
          omega
      have HSO := Lib.hid hsort
      clear hsort
      go_wp2_with (go_at_call 166; refine (HSO.out _ (Fr.refl _ _)).mono ?_; rintro _ w2 ⟨rfl, ho2, hf2⟩)
      go_ret
      refine ⟨sortI l, sortI_up HCC.out.nd, fun x => (sortI_mem x).trans (HCC.out.all x), .slice Bl l.length dl, rfl, by rw [sortI_len]; exact ho2, hf2.mono (fun _ _ h => h.elim), ?_⟩
      cases Bl with
      | none => exact .inl rfl
      | some ad => exact .inr ⟨ad.block, rfl, HMM.out.ln _ rfl⟩
    · rw [List.concat_eq_append] at *
      have hI := hC.pop
      have hv : 0 ≤ v ∧ v < P.length := by
        rcases hI.at_ with h | h
        · exact HS.out v h
        · exact (hI.led v h).inR HP.out
      obtain ⟨kv, rfl⟩ : ∃ kv : Nat, v = (kv : Int) := ⟨v.toNat, by omega⟩
      have hkv : kv < P.length := by omega
      obtain ⟨ad, rfl, htop⟩ := hM.top
      obtain ⟨adp, Ar, cr, rfl, hc0, hrow, hlc, hcm⟩ := HG.out.at_ kv hkv
      have hcp := hM.f.cell_some hc0 (fun h => h)
      rw [← gat_at hkv] at hcp hrow hlc
      have hmr := HM.out kv
      have HI := Lib.hid hI
      have HMM := Lib.hid hM.pop
      have hcs : st0.length ≤ cs := by
        obtain ⟨_, _, e, h1, -⟩ := hM.pop.so.form
        injection e with _ _ e
        omega
      have HROW : Hid (∀ W, Fr No w W → Rd W F 1 Ar (gat P kv).length (is_ (gat P kv))) := fun W hW => hrow.fr (by decide) hW (fun _ _ _ h => h)
      have hlen0 : (st0 ++ [(kv : Int)]).length = st0.length + 1 := by simp
      rw [hlen0] at hsl2 ⊢
      have hst : (st0.length : Int) ≤ 1002000 := by omega
      clear hI hC hM hv hrow hc0 hlen0 hsl2
      go_wp2
      generalize wr = wo at *
      go_loopw [6, 7, 35] (fun sv lv jv wr => SpN w P start kv (2 * (P.length - l.length) + st0.length) sv lv jv wr) (fun _ _ jv _ => (gat P kv).length - (intOf jv).toNat)
      case atStart => exact ⟨st0, l, some ad, cs, Bl, dl, 0, HI.out, HMM.out, rfl, rfl, rfl, Nat.zero_le _, Nat.le_refl _⟩
      case round =>
        clear HI HMM htop hst hll hcs
        obtain ⟨st, l2, As, cs2, Bl2, dl2, j, hI, hM, rfl, rfl, rfl, hj, hle⟩ := hrel
        have hll := nodup_le hI.nd fun x hx => (hI.led x hx).inR HP.out
        have hst := hI.len
        by_cases hlj : j < (gat P kv).length
        · obtain ⟨ad2, u, rfl, _, hu, hx⟩ := (HROW.out wr hM.f).at_ hlj
          rw [is_at _ j hlj] at hu
          injection hu with hu
          subst hu
          obtain ⟨h0, h1⟩ := HP.out kv _ (List.getElem_mem hlj)
          obtain ⟨kx, hkx⟩ : ∃ kx : Nat, (gat P kv)[j] = (kx : Int) := ⟨(gat P kv)[j].toNat, by omega⟩
          have hkn : kx < P.length := by omega
          have hsk := fun h => SpI.skip (v := (kv : Int)) hI hlj h
          have hpu := fun h => SpI.push (v := (kv : Int)) hI hlj h
          change (gat P kv)[j] ∈ l2 → _ at hsk
          change (gat P kv)[j] ∉ l2 → SpI P start (st ++ [(gat P kv)[j]]) (l2 ++ [(gat P kv)[j]]) (kv : Int) (j + 1) at hpu
          rw [hkx] at hx hsk hpu
          obtain ⟨hsc, hsf⟩ := hM.seen hkn
          have HMM := Lib.hid hM
          clear h0 h1 hkx
          by_cases hin : (kx : Int) ∈ l2
          · rw [show l2.contains (kx : Int) = true from List.contains_iff_mem.2 hin] at hsc
            have HI2 := Lib.hid (hsk hin)
            clear hsk hpu hI hM hin
            go_wp2
            go_roundw
            case rel => exact ⟨st, l2, As, cs2, Bl2, dl2, j + 1, HI2.out, HMM.out, rfl, rfl, by go_num, by omega, hle⟩
            case measure => simp [intOf]; omega
          · rw [show l2.contains (kx : Int) = false from by simpa using hin] at hsc
            have HI2 := Lib.hid (hpu hin)
            have hl3 := nodup_le HI2.out.nd fun x hx => (HI2.out.led x hx).inR HP.out
            rw [List.length_append, List.length_singleton] at hl3
            obtain ⟨cur, hcur⟩ := hM.bb.blk w.heap.size rfl
            have sne : (Value.slice As st.length cs2).ownBlock ≠ some w.heap.size := hM.so.ne_ hcur (by decide)
            have lne : (Value.slice Bl2 l2.length dl2).ownBlock ≠ some w.heap.size := hM.lo.ne_ hcur (by decide)
            have HS1 : Hid (Own (wr.setCell ⟨w.heap.size, kx, none⟩ (.bool true)) 3 1 (.slice As st.length cs2) st.length (is_ st)) := hM.so.setCell (p := ⟨w.heap.size, kx, none⟩) sne _
            have HL1 : Hid (Own (wr.setCell ⟨w.heap.size, kx, none⟩ (.bool true)) 3 1 (.slice Bl2 l2.length dl2) l2.length (is_ l2)) := hM.lo.setCell (p := ⟨w.heap.size, kx, none⟩) lne _
            have HAP := Lib.hid hM.ap
            have hst2 : (st.length : Int) ≤ 1002000 := by omega
            have hll2 : (l2.length : Int) ≤ 1002000 := by omega
            have HLE := Lib.hid hle
            clear hsk hpu hI hM hin cur hcur sne lne hst hle hll
            go_wp2_with (first
              | (at_builtin; refine wpList_app _ rfl (.tmp 47) (.tmp 49) 66 66 rfl elKI (HS1.out.alloc (.cells #[.int .i64 (kx : Int)] 3)) rfl (Src.of_new (cs := #[.int .i64 (kx : Int)]) (t := 3) wr.heap.size (by have := heap_alloc_new (wr.setCell ⟨w.heap.size, kx, none⟩ (.bool true)) (.cells #[.int .i64 (kx : Int)] 3); rwa [World.size_setCell] at this) Tryz.underlying66 rfl (by simp [Value.oneCell'])) rfl (by simp only [maxLen]; omega) (by omega) ?_; intro v3 w3 ho3 hf3 hn3; obtain ⟨A3, c3, rfl, -, -⟩ := ho3.form; have HL2 := (HL1.out.alloc (.cells #[.int .i64 (kx : Int)] 3)).fr hf3 (fun i hi hS => HAP.out i hS hi))
              | (at_builtin; refine wpList_app _ rfl (.tmp 51) (.tmp 53) 66 66 rfl elKI (HL2.alloc (.cells #[.int .i64 (kx : Int)] 3)) rfl (Src.of_new (cs := #[.int .i64 (kx : Int)]) (t := 3) w3.heap.size (heap_alloc_new w3 _) Tryz.underlying66 rfl (by simp [Value.oneCell'])) rfl (by simp only [maxLen]; omega) (by omega) ?_; intro v4 w4 ho4 hf4 hn4; obtain ⟨A4, c4, rfl, -, -⟩ := ho4.form))
            have HM2 := Lib.hid (SpM.push HMM.out hkn ho3 hf3 hn3 ho4 hf4 hn4)
            clear ho3 hf3 hn3 ho4 hf4 hn4 HL2
            go_wp2
            go_roundw
            case rel => exact ⟨st ++ [(kx : Int)], l2 ++ [(kx : Int)], A3, c3, A4, c4, j + 1, HI2.out, HM2.out, by rw [List.length_append]; rfl, by rw [List.length_append]; rfl, by go_num, by omega, by have := HLE.out; simp only [List.length_append, List.length_singleton]; omega⟩
            case measure => simp [intOf]; omega
        · obtain rfl : j = (gat P kv).length := by omega
          have HCC := Lib.hid (SpI.done (v := (kv : Int)) hI)
          have HMM := Lib.hid hM
          clear hI hM
          go_wp2
          go_roundw
          case rel => exact ⟨st, l2, As, cs2, Bl2, dl2, HCC.out, HMM.out, rfl, rfl⟩
          case measure => simp only [slen]; omega
end Go.Proofs.YtcpgamidimfflaaGreat
namespace Go.Proofs.YtcpgamidimfflaaGreat
open Go.RowKit Go.My Go.Maps
set_option linter.unusedSimpArgs false
set_option linter.unusedVariables false
attribute [local go_sem ↓] Go.wp_at_zero Go.wp_at_succ
theorem RetX.over {w w1 w' : World} {X : Int → Prop} {e : Ending} (h : RetX w1 X e w') (hf : Fr No w w1) : RetX w X e w' := by
  obtain ⟨L, h1, h2, v, rfl, h3, h4, h5⟩ := h
  refine ⟨L, h1, h2, v, rfl, h3, (hf.mono fun _ _ h => h.elim).trans h4, ?_⟩
  rcases h5 with h5 | ⟨k, h5, h6⟩
  · exact .inl h5
  · exact .inr ⟨k, h5, by have := hf.size; omega⟩
theorem RetX.none {w : World} {X : Int → Prop} (h : ∀ x, ¬ X x) : RetX w X (.returned (.slice none 0 0)) w := ⟨[], List.Pairwise.nil, fun x => ⟨fun hx => absurd hx (List.not_mem_nil), fun hx => absurd hx (h x)⟩, _, rfl, Own.nil _ _ _, Fr.refl _ _, .inl rfl⟩
theorem gat_rows (f : Nat → List Int) (n k : Nat) : gat (rows f n) k = if k < n then f k else [] := by
  unfold gat
  by_cases h : k < n
  · rw [List.getD_eq_getElem?_getD, rows_get _ _ _ h, if_pos h]
    rfl
  · rw [List.getD_eq_getElem?_getD, List.getElem?_eq_none (by rw [rows_length]; omega), if_neg h]
    rfl
theorem gat_len {G : List (List Int)} {M : Nat} (h : ∀ L ∈ G, L.length ≤ M) (k : Nat) : (gat G k).length ≤ M := by
  unfold gat
  by_cases hk : k < G.length
  · rw [List.getD_eq_getElem?_getD, List.getElem?_eq_getElem hk]
    exact h _ (List.getElem_mem hk)
  · rw [List.getD_eq_getElem?_getD, List.getElem?_eq_none (by omega)]
    exact Nat.zero_le _
theorem propG_len (G : List (List Int)) : (propG G).length = G.length := rows_length _ _
theorem propG_gat (G : List (List Int)) (k : Nat) : gat (propG G) k = if k < G.length then (gat G k).filter (inR G.length) else [] := gat_rows _ _ _
theorem propG_row {G : List (List Int)} {M : Nat} (h : ∀ L ∈ G, L.length ≤ M) (k : Nat) : (gat (propG G) k).length ≤ M := by
  rw [propG_gat]
  split
  · exact Nat.le_trans (List.length_filter_le _ _) (gat_len h k)
  · exact Nat.zero_le _
theorem propG_pl (G : List (List Int)) : PlK (propG G) := fun k x hx => by
  rw [propG_gat] at hx
  split at hx
  · rw [propG_len]
    have := (List.mem_filter.1 hx).2
    unfold inR at this
    exact of_decide_eq_true this
  · cases hx
end Go.Proofs.YtcpgamidimfflaaGreat
namespace Go.Proofs.YtcpgamidimfflaaGreat
open Go.RowKit Go.My Go.Maps
set_option linter.unusedSimpArgs false
set_option linter.unusedVariables false
attribute [local go_sem ↓] Go.wp_at_zero Go.wp_at_succ
theorem usersG_len (P : List (List Int)) : (usersG P).length = P.length := rows_length _ _
theorem usersG_row {P : List (List Int)} {M : Nat} (h : ∀ k, (gat P k).length ≤ M) (k : Nat) : (gat (usersG P) k).length ≤ (P.length + 1) * M := by
  rw [← usF_all, gat_rows]
  split
  · exact usF_len P M h _ _ _
  · exact Nat.zero_le _
theorem usersG_mem (P : List (List Int)) (k : Nat) (x : Int) : x ∈ gat (usersG P) k ↔ k < P.length ∧ ∃ a : Nat, a < P.length ∧ x = (a : Int) ∧ (k : Int) ∈ gat P a := by
  unfold usersG
  rw [gat_rows]
  split
  · rename_i h
    unfold usA
    simp only [List.mem_flatMap, List.mem_range, List.mem_map, List.mem_filter, beq_iff_eq]
    constructor
    · rintro ⟨a, ha, y, ⟨hy, rfl⟩, rfl⟩
      exact ⟨h, a, ha, rfl, hy⟩
    · rintro ⟨_, a, ha, rfl, hy⟩
      exact ⟨a, ha, _, ⟨hy, rfl⟩, rfl⟩
  · rename_i h
    exact ⟨fun hx => absurd hx List.not_mem_nil, fun hx => absurd hx.1 h⟩
theorem usersG_pl (P : List (List Int)) : PlK (usersG P) := fun k x hx => by
  obtain ⟨_, a, ha, rfl, _⟩ := (usersG_mem P k x).1 hx
  rw [usersG_len]
  omega
def pick (q : Nat → Bool) (i : Nat) : List Int := ((List.range i).filter q).map fun (a : Nat) => (a : Int)
theorem pick_succ (q : Nat → Bool) (i : Nat) : pick q (i + 1) = if q i then pick q i ++ [(i : Int)] else pick q i := by
  unfold pick
  rw [List.range_succ, List.filter_append]
  by_cases h : q i <;> simp [h]
theorem pick_yes {q : Nat → Bool} {i : Nat} (h : q i = true) : pick q (i + 1) = pick q i ++ [(i : Int)] := by rw [pick_succ, if_pos h]
theorem pick_no {q : Nat → Bool} {i : Nat} (h : q i = false) : pick q (i + 1) = pick q i := by rw [pick_succ, if_neg (by rw [h]; exact Bool.false_ne_true)]
theorem pick_len (q : Nat → Bool) (i : Nat) : (pick q i).length ≤ i := by
  unfold pick
  rw [List.length_map]
  exact Nat.le_trans (List.length_filter_le _ _) (by simp)
theorem pick_mem (q : Nat → Bool) (i : Nat) (x : Int) : x ∈ pick q i ↔ ∃ a : Nat, a < i ∧ q a = true ∧ x = (a : Int) := by
  unfold pick
  simp only [List.mem_map, List.mem_filter, List.mem_range]
  constructor
  · rintro ⟨a, ⟨h1, h2⟩, rfl⟩
    exact ⟨a, h1, h2, rfl⟩
  · rintro ⟨a, h1, h2, rfl⟩
    exact ⟨a, ⟨h1, h2⟩, rfl⟩
theorem pick_up (q : Nat → Bool) (i : Nat) : (pick q i).Pairwise (· < ·) := by
  induction i with
  | zero => exact List.Pairwise.nil
  | succ i ih =>
    rw [pick_succ]
    split
    · refine List.pairwise_append.2 ⟨ih, List.pairwise_singleton _ _, fun a ha b hb => ?_⟩
      obtain ⟨c, hc, _, rfl⟩ := (pick_mem q i a).1 ha
      rw [List.mem_singleton.1 hb]
      omega
    · exact ih
structure OpM (w wr : World) (n : Nat) (l M : List Int) (A : Option Addr) (c : Nat) : Prop where
  so : Own wr 3 1 (.slice A l.length c) l.length (is_ l)
  bb : Own wr 4 1 (.slice (some ⟨w.heap.size, 0, none⟩) n n) n (bo n M)
  sn : ∀ k, (Value.slice A l.length c).ownBlock = some k → w.heap.size ≤ k
  f : Fr No w wr
theorem OpM.zero (w : World) {n : Nat} (hn : n ≤ 1000000) : OpM w (w.alloc (.cells (zrow n (.bool false)).toArray 4)) n [] [] none 0 where
  so := Own.nil _ _ _
  bb := by
    rw [bo_nil]
    exact ⟨by rw [zrow_length]; omega, .inr ⟨w.heap.size, n, _, rfl, heap_alloc_new w _, Nat.le_refl _, by simp only [maxLen]; omega, by simp [zrow_length], by rw [Nat.mul_one]; exact List.take_of_length_le (by simp [zrow_length])⟩⟩
  sn k hk := by cases hk
  f := (Fr.refl No w).alloc _
section
variable {w wr : World} {n : Nat} {l M : List Int} {A : Option Addr} {c : Nat}
theorem OpM.over (h : OpM w wr n l M A c) {w2 : World} (hf : Fr No wr w2) : OpM w w2 n l M A c where
  so := h.so.fr hf fun _ _ h => h
  bb := h.bb.fr hf fun _ _ h => h
  sn := h.sn
  f := h.f.trans hf
theorem OpM.nil (h : OpM w wr n l M A c) : OpM w wr n [] M none 0 where
  so := Own.nil _ _ _
  bb := h.bb
  sn k hk := by cases hk
  f := h.f
theorem OpM.ne (h : OpM w wr n l M A c) : (Value.slice A l.length c).ownBlock ≠ some w.heap.size := by
  obtain ⟨cur, hcur⟩ := h.bb.blk w.heap.size rfl
  exact h.so.ne_ hcur (by decide)
theorem OpM.app (h : OpM w wr n l M A c) {w2 : World} {o : Obj} {A2 : Option Addr} {c2 : Nat} {x : Int}
    (h2 : Own w2 3 1 (.slice A2 (l.length + 1) c2) (l.length + 1) (is_ l ++ [.int .i64 x]))
    (f2 : Fr (AtO (Value.slice A l.length c).ownBlock) (wr.alloc o) w2)
    (n2 : (Value.slice A2 (l.length + 1) c2).ownBlock = (Value.slice A l.length c).ownBlock ∨ (Value.slice A2 (l.length + 1) c2).ownBlock = some (wr.alloc o).heap.size) : OpM w w2 n (l ++ [x]) M A2 c2 where
  so := by rw [is_append, List.length_append]; exact h2
  bb := (h.bb.alloc o).fr f2 fun i hi hS => h.ne (by injection hi with hi; subst hi; exact hS)
  sn i hi := by
    rw [ob_len A2 _ (l.length + 1) _ c2] at hi
    rcases n2 with n2 | n2
    · exact h.sn i (n2 ▸ hi)
    · rw [n2, World.size_alloc] at hi
      injection hi with hi
      have := h.f.size
      omega
  f := (h.f.alloc o).trans' f2 fun i hi hlt => by
    have := h.sn i hi
    omega
theorem OpM.mark (h : OpM w wr n l M A c) {k : Nat} (hk : k < n) : OpM w (wr.setCell ⟨w.heap.size, k, none⟩ (.bool true)) n l (M ++ [(k : Int)]) A c where
  so := h.so.setCell (p := ⟨w.heap.size, k, none⟩) h.ne _
  bb := by
    have := (h.bb.store k hk (.bool true)).1
    rwa [bo_set n M k hk] at this
  sn := h.sn
  f := h.f.trans' (fr_set _ w.heap.size k _) fun i hi hlt => by
    have : i = w.heap.size := hi
    omega
theorem OpM.seen (h : OpM w wr n l M A c) {k : Nat} (hk : k < n) : wr.cell? ⟨w.heap.size, k, none⟩ = some (.bool (M.contains (k : Int))) ∧ wr.frozen? ⟨w.heap.size, k, none⟩ = false := by
  obtain ⟨ad, u, e, _, hu, hc⟩ := (h.bb.rd).at_ (k := k) hk
  rw [bo_at _ _ _ hk] at hu
  injection hu with hu
  subst hu
  injection e with e
  subst e
  rw [add_zero] at hc
  exact ⟨hc, (h.bb.store k hk (.bool true)).2.2⟩
end
def unk (kl : List Bool) (a : Nat) : Bool := !(kl.getD a false)
theorem unk_out {kl : List Bool} {a : Nat} (h : ¬ a < kl.length) : unk kl a = true := by
  unfold unk
  rw [List.getD_eq_getElem?_getD, List.getElem?_eq_none (by omega)]
  rfl
theorem unk_in {kl : List Bool} {a : Nat} (h : a < kl.length) : unk kl a = !kl[a] := by
  unfold unk
  rw [List.getD_eq_getElem?_getD, List.getElem?_eq_getElem h]
  rfl
def O1 (w : World) (kl : List Bool) (n : Nat) (uv iv : Value) (wr : World) : Prop := ∃ (i : Nat) (A : Option Addr) (c : Nat), i ≤ n ∧ OpM w wr n (pick (unk kl) i) (pick (unk kl) i) A c ∧ uv = .slice A (pick (unk kl) i).length c ∧ iv = .int .i64 i
def O2 (w w0 : World) (U L : List Int) (n : Nat) (A : Option Addr) (c : Nat) (jv : Value) (wr : World) : Prop := ∃ j : Nat, j ≤ L.length ∧ OpM w wr n U (U ++ L.take j) A c ∧ jv = .int .i64 j ∧ Fr (At1 w.heap.size) w0 wr
def O3 (w : World) (M : List Int) (n : Nat) (lv iv : Value) (wr : World) : Prop := ∃ (i : Nat) (A : Option Addr) (c : Nat), i ≤ n ∧ OpM w wr n (pick (fun a => !M.contains (a : Int)) i) M A c ∧ lv = .slice A (pick (fun a => !M.contains (a : Int)) i).length c ∧ iv = .int .i64 i
def openX (G : List (List Int)) (kl : List Bool) (x : Int) : Prop := ∃ a : Nat, a < G.length ∧ x = (a : Int) ∧ unk kl a = false ∧ ¬ Led (usersG (propG G)) (pick (unk kl) G.length) x
end Go.Proofs.YtcpgamidimfflaaGreat
