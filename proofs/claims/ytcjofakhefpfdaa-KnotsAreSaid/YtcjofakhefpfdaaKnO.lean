/- Open. -/
import Derived.Test.YtcjofakhefpfdaaKnR
namespace Go.Proofs.Ytcjofakhefpfdaa
open Go.RowKit Go.My Go.Maps
set_option linter.unusedSimpArgs false
set_option linter.unusedVariables false
attribute [local go_sem ↓] Go.wp_at_zero Go.wp_at_succ

theorem usersG_len (P : List (List Int)) : (usersG P).length = P.length := rows_length _ _
theorem usersG_row {P : List (List Int)} {M : Nat} (h : ∀ k, (gat P k).length ≤ M) (k : Nat) : (gat (usersG P) k).length ≤ (P.length + 1) * M := by
  rw [← usF_all, gat_rows]
  split
  · exact usF_len P M h _ _ _
  · exact Nat.zero_le _
theorem usersG_mem (P : List (List Int)) (k : Nat) (x : Int) : x ∈ gat (usersG P) k ↔ k < P.length ∧ ∃ a : Nat, a < P.length ∧ x = (a : Int) ∧ (k : Int) ∈ gat P a := by
  unfold usersG
  rw [gat_rows]
  split
  · rename_i h
    unfold usA
    simp only [List.mem_flatMap, List.mem_range, List.mem_map, List.mem_filter, beq_iff_eq]
    constructor
    · rintro ⟨a, ha, y, ⟨hy, rfl⟩, rfl⟩
      exact ⟨h, a, ha, rfl, hy⟩
    · rintro ⟨_, a, ha, rfl, hy⟩
      exact ⟨a, ha, _, ⟨hy, rfl⟩, rfl⟩
  · rename_i h
    exact ⟨fun hx => absurd hx List.not_mem_nil, fun hx => absurd hx.1 h⟩
theorem usersG_pl (P : List (List Int)) : Pl (usersG P) := fun k x hx => by
  obtain ⟨_, a, ha, rfl, _⟩ := (usersG_mem P k x).1 hx
  rw [usersG_len]
  omega

/-- the first i numbers of which q holds -/
def pick (q : Nat → Bool) (i : Nat) : List Int := ((List.range i).filter q).map fun (a : Nat) => (a : Int)
theorem pick_succ (q : Nat → Bool) (i : Nat) : pick q (i + 1) = if q i then pick q i ++ [(i : Int)] else pick q i := by
  unfold pick
  rw [List.range_succ, List.filter_append]
  by_cases h : q i <;> simp [h]
theorem pick_yes {q : Nat → Bool} {i : Nat} (h : q i = true) : pick q (i + 1) = pick q i ++ [(i : Int)] := by rw [pick_succ, if_pos h]
theorem pick_no {q : Nat → Bool} {i : Nat} (h : q i = false) : pick q (i + 1) = pick q i := by rw [pick_succ, if_neg (by rw [h]; exact Bool.false_ne_true)]
theorem pick_len (q : Nat → Bool) (i : Nat) : (pick q i).length ≤ i := by
  unfold pick
  rw [List.length_map]
  exact Nat.le_trans (List.length_filter_le _ _) (by simp)
theorem pick_mem (q : Nat → Bool) (i : Nat) (x : Int) : x ∈ pick q i ↔ ∃ a : Nat, a < i ∧ q a = true ∧ x = (a : Int) := by
  unfold pick
  simp only [List.mem_map, List.mem_filter, List.mem_range]
  constructor
  · rintro ⟨a, ⟨h1, h2⟩, rfl⟩
    exact ⟨a, h1, h2, rfl⟩
  · rintro ⟨a, h1, h2, rfl⟩
    exact ⟨a, ⟨h1, h2⟩, rfl⟩
theorem pick_up (q : Nat → Bool) (i : Nat) : (pick q i).Pairwise (· < ·) := by
  induction i with
  | zero => exact List.Pairwise.nil
  | succ i ih =>
    rw [pick_succ]
    split
    · refine List.pairwise_append.2 ⟨ih, List.pairwise_singleton _ _, fun a ha b hb => ?_⟩
      obtain ⟨c, hc, _, rfl⟩ := (pick_mem q i a).1 ha
      rw [List.mem_singleton.1 hb]
      omega
    · exact ih

/-- a list and the marks, in memory -/
structure OpM (w wr : World) (n : Nat) (l M : List Int) (A : Option Addr) (c : Nat) : Prop where
  so : Own wr 3 1 (.slice A l.length c) l.length (is_ l)
  bb : Own wr 4 1 (.slice (some ⟨w.heap.size, 0, none⟩) n n) n (bo n M)
  sn : ∀ k, (Value.slice A l.length c).ownBlock = some k → w.heap.size ≤ k
  f : Fr No w wr
theorem OpM.zero (w : World) {n : Nat} (hn : n ≤ 1000000) : OpM w (w.alloc (.cells (zrow n (.bool false)).toArray 4)) n [] [] none 0 where
  so := Own.nil _ _ _
  bb := by
    rw [bo_nil]
    exact ⟨by rw [zrow_length]; omega, .inr ⟨w.heap.size, n, _, rfl, heap_alloc_new w _, Nat.le_refl _, by simp only [maxLen]; omega, by simp [zrow_length], by rw [Nat.mul_one]; exact List.take_of_length_le (by simp [zrow_length])⟩⟩
  sn k hk := by cases hk
  f := (Fr.refl No w).alloc _
section
variable {w wr : World} {n : Nat} {l M : List Int} {A : Option Addr} {c : Nat}
theorem OpM.over (h : OpM w wr n l M A c) {w2 : World} (hf : Fr No wr w2) : OpM w w2 n l M A c where
  so := h.so.fr hf fun _ _ h => h
  bb := h.bb.fr hf fun _ _ h => h
  sn := h.sn
  f := h.f.trans hf
theorem OpM.nil (h : OpM w wr n l M A c) : OpM w wr n [] M none 0 where
  so := Own.nil _ _ _
  bb := h.bb
  sn k hk := by cases hk
  f := h.f
theorem OpM.ne (h : OpM w wr n l M A c) : (Value.slice A l.length c).ownBlock ≠ some w.heap.size := by
  obtain ⟨cur, hcur⟩ := h.bb.blk w.heap.size rfl
  exact h.so.ne_ hcur (by decide)
theorem OpM.app (h : OpM w wr n l M A c) {w2 : World} {o : Obj} {A2 : Option Addr} {c2 : Nat} {x : Int}
    (h2 : Own w2 3 1 (.slice A2 (l.length + 1) c2) (l.length + 1) (is_ l ++ [.int .i64 x]))
    (f2 : Fr (AtO (Value.slice A l.length c).ownBlock) (wr.alloc o) w2)
    (n2 : (Value.slice A2 (l.length + 1) c2).ownBlock = (Value.slice A l.length c).ownBlock ∨ (Value.slice A2 (l.length + 1) c2).ownBlock = some (wr.alloc o).heap.size) : OpM w w2 n (l ++ [x]) M A2 c2 where
  so := by rw [is_append, List.length_append]; exact h2
  bb := (h.bb.alloc o).fr f2 fun i hi hS => h.ne (by injection hi with hi; subst hi; exact hS)
  sn i hi := by
    rw [ob_len A2 _ (l.length + 1) _ c2] at hi
    rcases n2 with n2 | n2
    · exact h.sn i (n2 ▸ hi)
    · rw [n2, World.size_alloc] at hi
      injection hi with hi
      have := h.f.size
      omega
  f := (h.f.alloc o).trans' f2 fun i hi hlt => by
    have := h.sn i hi
    omega
theorem OpM.mark (h : OpM w wr n l M A c) {k : Nat} (hk : k < n) : OpM w (wr.setCell ⟨w.heap.size, k, none⟩ (.bool true)) n l (M ++ [(k : Int)]) A c where
  so := h.so.setCell (p := ⟨w.heap.size, k, none⟩) h.ne _
  bb := by
    have := (h.bb.store k hk (.bool true)).1
    rwa [bo_set n M k hk] at this
  sn := h.sn
  f := h.f.trans' (fr_set _ w.heap.size k _) fun i hi hlt => by
    have : i = w.heap.size := hi
    omega
theorem OpM.seen (h : OpM w wr n l M A c) {k : Nat} (hk : k < n) : wr.cell? ⟨w.heap.size, k, none⟩ = some (.bool (M.contains (k : Int))) ∧ wr.frozen? ⟨w.heap.size, k, none⟩ = false := by
  obtain ⟨ad, u, e, _, hu, hc⟩ := (h.bb.rd).at_ (k := k) hk
  rw [bo_at _ _ _ hk] at hu
  injection hu with hu
  subst hu
  injection e with e
  subst e
  rw [add_zero] at hc
  exact ⟨hc, (h.bb.store k hk (.bool true)).2.2⟩
end
/-- not known -/
def unk (kl : List Bool) (a : Nat) : Bool := !(kl.getD a false)
theorem unk_out {kl : List Bool} {a : Nat} (h : ¬ a < kl.length) : unk kl a = true := by
  unfold unk
  rw [List.getD_eq_getElem?_getD, List.getElem?_eq_none (by omega)]
  rfl
theorem unk_in {kl : List Bool} {a : Nat} (h : a < kl.length) : unk kl a = !kl[a] := by
  unfold unk
  rw [List.getD_eq_getElem?_getD, List.getElem?_eq_getElem h]
  rfl
def O1 (w : World) (kl : List Bool) (n : Nat) (uv iv : Value) (wr : World) : Prop := ∃ (i : Nat) (A : Option Addr) (c : Nat), i ≤ n ∧ OpM w wr n (pick (unk kl) i) (pick (unk kl) i) A c ∧ uv = .slice A (pick (unk kl) i).length c ∧ iv = .int .i64 i
def O2 (w w0 : World) (U L : List Int) (n : Nat) (A : Option Addr) (c : Nat) (jv : Value) (wr : World) : Prop := ∃ j : Nat, j ≤ L.length ∧ OpM w wr n U (U ++ L.take j) A c ∧ jv = .int .i64 j ∧ Fr (At1 w.heap.size) w0 wr
def O3 (w : World) (M : List Int) (n : Nat) (lv iv : Value) (wr : World) : Prop := ∃ (i : Nat) (A : Option Addr) (c : Nat), i ≤ n ∧ OpM w wr n (pick (fun a => !M.contains (a : Int)) i) M A c ∧ lv = .slice A (pick (fun a => !M.contains (a : Int)) i).length c ∧ iv = .int .i64 i
/-- known, and reaching what is known alone -/
def openX (G : List (List Int)) (kl : List Bool) (x : Int) : Prop := ∃ a : Nat, a < G.length ∧ x = (a : Int) ∧ unk kl a = false ∧ ¬ Led (usersG (propG G)) (pick (unk kl) G.length) x
end Go.Proofs.Ytcjofakhefpfdaa
