/- Contracts of package order: shapes. Contracts of package order: shapes, as a table. Contracts of package order: what the fields of a kind's orders may be. -/
import Derived.Test.YtcpgamidimfflaaGreatQ10
import Derived.Laws.EntriesVeiled
import Derived.Deep.DrawnRows
namespace Go.Proofs.YtcpgamidimfflaaGreat
open Go.RowKit Go.My Go.Maps
set_option linter.unusedSimpArgs false
set_option linter.unusedVariables false
def fnV (f : FuncId) : Value := .func (.func f) #[] #[]
def shp (a b c d e f g : FuncId) : Array Value := #[fnV a, fnV b, fnV c, fnV d, fnV e, fnV f, fnV g]
def shSlot (p : Nat) (E : Array Value) (g : Nat → Nat) (L : Nat → Bool) (k : Nat) : Value :=
  if k = 0 then .map none else if k = 1 then .pointer (some ⟨p, 0, none⟩) else if k < 9 then (if L (k + 5) then .pointer (some ⟨g (k - 2), 0, none⟩) else undef)
  else if k = 9 then .agg E else if k < 17 then (if L (k - 10) then .agg E else undef) else undef
def zs7 : Array Value := #[.nilFunc, .nilFunc, .nilFunc, .nilFunc, .nilFunc, .nilFunc, .nilFunc]
structure ShInv (w0 : World) (p : Nat) (E : Array Value) (l : Array Bool) (a : Act) (w : World) : Prop where
  size : l.size = 21
  len : a.tmps.size = 42
  defs : a.defers = []
  src : Blk w p 159 E
  fr : Fr No w0 w
  dep : ∀ j, j < 7 → l.getD (14 + j) false = true → l.getD (7 + j) false = true
  mem : ∃ g : Nat → Nat, (∀ k, k < 42 → a.tmps[k]? = some (shSlot p E g (fun i => l.getD i false) k)) ∧
    (∀ j, j < 7 → l.getD (7 + j) false = true → w0.heap.size ≤ g j ∧ Blk w (g j) 159 (if l.getD (14 + j) false = true then E else zs7)) ∧
    (∀ j k, j < 7 → k < 7 → l.getD (7 + j) false = true → l.getD (7 + k) false = true → g j = g k → j = k)
theorem ex_load {ρ : Operand → Value} {o : Oper} {x : Operand} {p : Nat} {w : World} {c0 c1 c2 c3 c4 c5 c6 : Value} (hop : o.op = .load 159 x) (hx : ρ x = .pointer (some ⟨p, 0, none⟩)) (hb : Blk w p 159 #[c0, c1, c2, c3, c4, c5, c6]) :
    (execOp ρ o).run Tryz.prog w = .ok (.value (.agg #[c0, c1, c2, c3, c4, c5, c6])) w := by
  have h0 := hb.cell 0
  have h1 := hb.cell 1
  have h2 := hb.cell 2
  have h3 := hb.cell 3
  have h4 := hb.cell 4
  have h5 := hb.cell 5
  have h6 := hb.cell 6
  simp only [List.getElem?_toArray, List.getElem?_cons_zero, List.getElem?_cons_succ] at h0 h1 h2 h3 h4 h5 h6
  unfold execOp
  rw [hop]
  simp [hx, go_sem, h0, h1, h2, h3, h4, h5, h6]
theorem ex_alloc {ρ : Operand → Value} {o : Oper} {w : World} (hop : o.op = .alloc 159) :
    (execOp ρ o).run Tryz.prog w = .ok (.value (.pointer (some ⟨w.heap.size, 0, none⟩))) (w.alloc (.cells zs7 159)) := by
  unfold execOp
  rw [hop]
  simp [go_sem, zs7]
noncomputable def sh2s : { c : Code // regOf 2 Tryz.f82 = c } := ⟨_, by conv => lhs; whnf⟩
noncomputable def sh2 : Code := sh2s.1
def okB (i : Nat) (o : Oper) : Bool :=
  o.after.all (fun e => !Region.binds .any e || decide (e.on < i)) &&
  match o.op, o.dst, o.guard with
  | .load t (.tmp x), some d, none => decide (i < 7) && decide (t = 159) && decide (x = 1) && decide (d = 10 + i)
  | .alloc t, some d, none => decide (7 ≤ i) && decide (i < 14) && decide (t = 159) && decide (d + 5 = i)
  | .store t (.tmp x) (.tmp y), none, none => decide (14 ≤ i) && decide (i < 21) && decide (t = 159) && decide (x + 12 = i) && decide (y + 4 = i) && o.after.toList.any (fun e => decide (e.on + 7 = i) && Region.binds .any e) && o.after.toList.any (fun e => decide (e.on + 14 = i) && Region.binds .any e)
  | _, _, _ => false
theorem sh2_ok : (opsOf sh2).toList.zipIdx.all (fun x => okB x.2 x.1) = true := by kernel_rfl
theorem sh2_size : (opsOf sh2).size = 21 := by kernel_rfl
theorem sh2_at {i : Nat} {o : Oper} (h : (opsOf sh2)[i]? = some o) : okB i o = true := by
  have h1 := List.all_eq_true.1 sh2_ok (o, i) (by
    rw [List.mem_zipIdx_iff_getElem?]
    simpa using h)
  exact h1
theorem okB_back {i : Nat} {o : Oper} (h : okB i o = true) : ∀ e ∈ o.after, Region.binds .any e = true → e.on < i := by
  intro e he hb
  unfold okB at h
  rw [Bool.and_eq_true, Array.all_eq_true_iff_forall_mem] at h
  have := h.1 e he
  rw [hb] at this
  simpa using this
theorem tmp5 (d i : Nat) (h : d + 5 = i) (h7 : 7 ≤ i) : d = i - 7 + 2 := by omega
theorem tmp12 (d i : Nat) (h : d + 12 = i) (h7 : 14 ≤ i) : d = i - 14 + 2 := by omega
theorem tmp4 (d i : Nat) (h : d + 4 = i) (h7 : 14 ≤ i) : d = 10 + (i - 14) := by omega
theorem okB_kind {i : Nat} {o : Oper} (h : okB i o = true) : o.guard = none ∧
    ((i < 7 ∧ o.op = .load 159 (.tmp 1) ∧ o.dst = some (10 + i)) ∨
     (∃ j, j < 7 ∧ i = 7 + j ∧ o.op = .alloc 159 ∧ o.dst = some (j + 2)) ∨
     (∃ j, j < 7 ∧ i = 14 + j ∧ o.op = .store 159 (.tmp (j + 2)) (.tmp (10 + j)) ∧ o.dst = none ∧ (∃ e ∈ o.after, e.on = 7 + j ∧ Region.binds .any e = true) ∧ ∃ e ∈ o.after, e.on = j ∧ Region.binds .any e = true)) := by
  unfold okB at h
  rw [Bool.and_eq_true] at h
  obtain ⟨-, h⟩ := h
  split at h
  · rename_i t x d hop hd hg
    simp only [Bool.and_eq_true, decide_eq_true_eq] at h
    obtain ⟨⟨⟨h1, rfl⟩, rfl⟩, rfl⟩ := h
    exact ⟨hg, .inl ⟨h1, hop, hd⟩⟩
  · rename_i t d hop hd hg
    simp only [Bool.and_eq_true, decide_eq_true_eq] at h
    obtain ⟨⟨⟨h1, h2⟩, rfl⟩, h3⟩ := h
    exact ⟨hg, .inr (.inl ⟨i - 7, by omega, by omega, hop, by rw [hd, show d = i - 7 + 2 from tmp5 d i h3 h1]⟩)⟩
  · rename_i t x y hop hd hg
    simp only [Bool.and_eq_true, decide_eq_true_eq, List.any_eq_true, Array.mem_toList_iff] at h
    obtain ⟨⟨⟨⟨⟨⟨h1, h2⟩, rfl⟩, h3⟩, h4⟩, e1, he1, h5, h6⟩, e2, he2, h7, h8⟩ := h
    refine ⟨hg, .inr (.inr ⟨i - 14, by omega, by omega, ?_, hd, ⟨e1, he1, by omega, h6⟩, e2, he2, by omega, h8⟩)⟩
    rw [hop, show x = i - 14 + 2 from tmp12 x i h3 h1, show y = 10 + (i - 14) from tmp4 y i h4 h1]
  · cases h
theorem getD_set (l : Array Bool) (i n : Nat) (hi : i < l.size) : (l.setIfInBounds i true).getD n false = ((n == i) || l.getD n false) := by
  by_cases e : n = i
  · subst e
    simp [hi]
  · rw [getD_set_ne false (fun h => e h.symm)]
    simp [e]
theorem slot_other {p : Nat} {E : Array Value} {g g' : Nat → Nat} {L L' : Nat → Bool} {k : Nat} (h1 : ∀ n, n < 21 → (n + 10 = k ∧ k < 17) ∨ (n = k + 5 ∧ 2 ≤ k ∧ k < 9) → L' n = L n) (h2 : ∀ n, n + 2 = k → g' n = g n) : shSlot p E g' L' k = shSlot p E g L k := by
  unfold shSlot
  by_cases c0 : k = 0
  · rw [if_pos c0, if_pos c0]
  rw [if_neg c0, if_neg c0]
  by_cases c1 : k = 1
  · rw [if_pos c1, if_pos c1]
  rw [if_neg c1, if_neg c1]
  by_cases c9 : k < 9
  · rw [if_pos c9, if_pos c9, h1 (k + 5) (by omega) (.inr ⟨rfl, by omega, by omega⟩), h2 (k - 2) (by omega)]
  rw [if_neg c9, if_neg c9]
  by_cases d9 : k = 9
  · rw [if_pos d9, if_pos d9]
  rw [if_neg d9, if_neg d9]
  by_cases c17 : k < 17
  · rw [if_pos c17, if_pos c17, h1 (k - 10) (by omega) (.inl ⟨by omega, by omega⟩)]
  rw [if_neg c17, if_neg c17]
theorem put_at {a : Act} {d k : Nat} {v : Value} (hd : d < a.tmps.size) : (a.put (some d) v).tmps[k]? = if k = d then some v else a.tmps[k]? := by
  unfold Act.put
  simp only
  by_cases e : k = d
  · subst e
    simp [hd]
  · rw [if_neg e, Array.getElem?_setIfInBounds_ne (fun h => e h.symm)]
theorem eval_at {a : Act} {k : Nat} {v : Value} (h : a.tmps[k]? = some v) : a.eval (.tmp k) = v := by
  unfold Act.eval
  simp [h]
theorem oneF (c0 c1 c2 c3 c4 c5 c6 : FuncId) : (shp c0 c1 c2 c3 c4 c5 c6).all (·.oneCell') = true := by simp [shp, fnV, Value.oneCell']
theorem sh_step {w0 : World} {p : Nat} {Q : Exit → Act → World → Prop} {c0 c1 c2 c3 c4 c5 c6 : FuncId} (hp : p < w0.heap.size) (l : Array Bool) (a : Act) (w : World) (i : Nat) (o : Oper)
    (h : ShInv w0 p (shp c0 c1 c2 c3 c4 c5 c6) l a w) (ho : (opsOf sh2)[i]? = some o) (hf : l.getD i true = false) (hall : ∀ e ∈ o.after, Region.binds .any e = true → l.getD e.on false = true) :
    wpOp Tryz.prog (opsOf sh2) Q i (ShInv w0 p (shp c0 c1 c2 c3 c4 c5 c6) (l.setIfInBounds i true)) a w := by
  obtain ⟨hg, hk⟩ := okB_kind (sh2_at ho)
  have hlt : i < l.size := by
    have := (Array.getElem?_eq_some_iff.1 ho).1
    rw [sh2_size] at this
    rw [h.size]
    exact this
  have hff : l.getD i false = false := by simpa [hlt] using hf
  obtain ⟨g, m1, m2, m3⟩ := h.mem
  have hL := fun n => getD_set l i n hlt
  refine wpOp_step ho fun K' hK => ?_
  rw [if_pos (by unfold Region.wanted; rw [hg])]
  rcases hk with ⟨hi, hop, hd⟩ | ⟨j, hj, rfl, hop, hd⟩ | ⟨j, hj, rfl, hop, hd, ⟨e1, he1, he2, he3⟩, e4, he4, he5, he6⟩
  · unfold Oper.wp
    rw [ex_load hop (eval_at (m1 1 (by omega))) h.src, Oper.upon_value, hd]
    refine hK _ _ ⟨by simpa using h.size, by simpa [Act.put] using h.len, by simpa [Act.put] using h.defs, h.src, h.fr, fun j hj hl => ?_, g, fun k hk => ?_, fun j hj hl => ?_, fun j k hj hk h1 h2 => ?_⟩
    · rw [hL, show (14 + j == i) = false from beq_eq_false_iff_ne.2 (by omega), Bool.false_or] at hl
      rw [hL, h.dep j hj hl, Bool.or_true]
    · rw [put_at (by rw [h.len]; omega)]
      by_cases e : k = 10 + i
      · rw [if_pos e]
        unfold shSlot
        rw [if_neg (by omega), if_neg (by omega), if_neg (by omega), if_neg (by omega), if_pos (by omega)]
        simp only [hL]
        rw [show k - 10 = i by omega]
        simp [shp]
      · rw [if_neg e, m1 k hk]
        congr 1
        refine (slot_other (fun n hn hn2 => ?_) (fun _ _ => rfl)).symm
        show (l.setIfInBounds i true).getD n false = _
        rw [hL]
        have : (n == i) = false := beq_eq_false_iff_ne.2 (by omega)
        rw [this]
        rfl
    · rw [hL] at hl
      have : (7 + j == i) = false := beq_eq_false_iff_ne.2 (by omega)
      rw [this, Bool.false_or] at hl
      obtain ⟨r1, r2⟩ := m2 j hj hl
      rw [hL, show (14 + j == i) = false from beq_eq_false_iff_ne.2 (by omega), Bool.false_or]
      exact ⟨r1, r2⟩
    · rw [hL, show (7 + j == i) = false from beq_eq_false_iff_ne.2 (by omega), Bool.false_or] at h1
      rw [hL, show (7 + k == i) = false from beq_eq_false_iff_ne.2 (by omega), Bool.false_or] at h2
      exact m3 j k hj hk h1 h2
  · unfold Oper.wp
    rw [ex_alloc hop, Oper.upon_value, hd]
    have h14 : l.getD (14 + j) false = false := by
      cases hq : l.getD (14 + j) false with
      | false => rfl
      | true => rw [h.dep j hj hq] at hff; cases hff
    have hsz := h.fr.size
    refine hK _ _ ⟨by simpa using h.size, by simpa [Act.put] using h.len, by simpa [Act.put] using h.defs, h.src.alloc _, h.fr.alloc _, fun k hk hl => ?_, fun k => if k = j then w.heap.size else g k, fun k hk => ?_, fun k hk hl => ?_, fun k n hk hn h1 h2 he => ?_⟩
    · rw [hL, show (14 + k == 7 + j) = false from beq_eq_false_iff_ne.2 (by omega), Bool.false_or] at hl
      rw [hL, h.dep k hk hl]
      simp
    · rw [put_at (by rw [h.len]; omega)]
      by_cases e : k = j + 2
      · rw [if_pos e]
        unfold shSlot
        rw [if_neg (by omega), if_neg (by omega), if_pos (by omega)]
        simp only [hL]
        rw [show k + 5 = 7 + j by omega]
        simp [show k - 2 = j by omega]
      · rw [if_neg e, m1 k hk]
        congr 1
        refine (slot_other (fun n hn hn2 => ?_) (fun n hn => ?_)).symm
        · show (l.setIfInBounds (7 + j) true).getD n false = _
          rw [hL]
          have : (n == 7 + j) = false := beq_eq_false_iff_ne.2 (by omega)
          rw [this]
          rfl
        · show (if n = j then w.heap.size else g n) = g n
          rw [if_neg (by omega)]
    · rw [hL, show (14 + k == 7 + j) = false from beq_eq_false_iff_ne.2 (by omega), Bool.false_or]
      show w0.heap.size ≤ (if k = j then w.heap.size else g k) ∧ Blk _ (if k = j then w.heap.size else g k) _ _
      by_cases e : k = j
      · subst e
        rw [if_pos rfl, h14]
        exact ⟨hsz, Blk.new w _ _⟩
      · rw [if_neg e]
        rw [hL, show (7 + k == 7 + j) = false from beq_eq_false_iff_ne.2 (by omega), Bool.false_or] at hl
        obtain ⟨r1, r2⟩ := m2 k hk hl
        exact ⟨r1, r2.alloc _⟩
    · have ho : ∀ k, k < 7 → k ≠ j → (l.setIfInBounds (7 + j) true).getD (7 + k) false = true → g k < w.heap.size ∧ l.getD (7 + k) false = true := fun k hk hne hl => by
        rw [hL, show (7 + k == 7 + j) = false from beq_eq_false_iff_ne.2 (by omega), Bool.false_or] at hl
        exact ⟨(m2 k hk hl).2.lt, hl⟩
      simp only at he
      by_cases e1 : k = j
      · by_cases e2 : n = j
        · omega
        · rw [if_pos e1, if_neg e2] at he
          have := (ho n hn e2 h2).1
          omega
      · by_cases e2 : n = j
        · rw [if_neg e1, if_pos e2] at he
          have := (ho k hk e1 h1).1
          omega
        · rw [if_neg e1, if_neg e2] at he
          exact m3 k n hk hn (ho k hk e1 h1).2 (ho n hn e2 h2).2 he
  · have l7 : l.getD (7 + j) false = true := by rw [← he2]; exact hall e1 he1 he3
    have l0 : l.getD j false = true := by rw [← he5]; exact hall e4 he4 he6
    obtain ⟨r1, r2⟩ := m2 j hj l7
    rw [hff] at r2
    have x1 : a.eval (.tmp (j + 2)) = .pointer (some ⟨g j, 0, none⟩) := by
      refine eval_at ((m1 (j + 2) (by omega)).trans ?_)
      unfold shSlot
      rw [if_neg (by omega), if_neg (by omega), if_pos (by omega), show j + 2 + 5 = 7 + j by omega]
      simp [l7, show j + 2 - 2 = j by omega]
    have x2 : a.eval (.tmp (10 + j)) = .agg (shp c0 c1 c2 c3 c4 c5 c6) := by
      refine eval_at ((m1 (10 + j) (by omega)).trans ?_)
      unfold shSlot
      rw [if_neg (by omega), if_neg (by omega), if_neg (by omega), if_neg (by omega), if_pos (by omega), show 10 + j - 10 = j by omega]
      simp [l0]
    refine wp_store_row 159 _ _ hop (g j) (shp c0 c1 c2 c3 c4 c5 c6) x1 x2 159 zs7 r2 (by kernel_rfl) rfl (oneF _ _ _ _ _ _ _) ?_
    have hpg : p ≠ g j := by omega
    have hfr : Fr (At1 (g j)) w (w.setRow (g j) (shp c0 c1 c2 c3 c4 c5 c6)) := Fr.setRow (S := At1 (g j)) (Fr.refl _ w) (fun _ => rfl) _
    rw [hd]
    refine hK _ _ ⟨by simpa using h.size, h.len, h.defs, h.src.fr hfr hpg, h.fr.setRow (fun hlt => by omega) _, fun k hk hl => ?_, g, fun k hk => ?_, fun k hk hl => ?_, fun k n hk hn h1 h2 he => ?_⟩
    · rw [hL, show (7 + k == 14 + j) = false from beq_eq_false_iff_ne.2 (by omega), Bool.false_or]
      by_cases e : k = j
      · subst e; exact l7
      · rw [hL, show (14 + k == 14 + j) = false from beq_eq_false_iff_ne.2 (by omega), Bool.false_or] at hl
        exact h.dep k hk hl
    · show a.tmps[k]? = _
      rw [m1 k hk]
      congr 1
      refine (slot_other (fun n hn hn2 => ?_) (fun _ _ => rfl)).symm
      show (l.setIfInBounds (14 + j) true).getD n false = _
      rw [hL]
      have : (n == 14 + j) = false := beq_eq_false_iff_ne.2 (by omega)
      rw [this]
      rfl
    · rw [hL, show (7 + k == 14 + j) = false from beq_eq_false_iff_ne.2 (by omega), Bool.false_or] at hl
      obtain ⟨s1, s2⟩ := m2 k hk hl
      refine ⟨s1, ?_⟩
      by_cases e : k = j
      · subst e
        rw [hL, show (14 + k == 14 + k) = true from beq_self_eq_true _, Bool.true_or, if_pos rfl]
        exact setRow_heap w (g k) _ _ _ _ r2
      · rw [hL, show (14 + k == 14 + j) = false from beq_eq_false_iff_ne.2 (by omega), Bool.false_or]
        exact s2.fr hfr (fun e2 => e (m3 k j hk hj hl l7 e2))
    · rw [hL, show (7 + k == 14 + j) = false from beq_eq_false_iff_ne.2 (by omega), Bool.false_or] at h1
      rw [hL, show (7 + n == 14 + j) = false from beq_eq_false_iff_ne.2 (by omega), Bool.false_or] at h2
      exact m3 k n hk hn h1 h2 he
def shFrame (p : Nat) (E : Array Value) (g : Nat → Nat) : Array Value :=
  #[.map none, .pointer (some ⟨p, 0, none⟩), .pointer (some ⟨g 0, 0, none⟩), .pointer (some ⟨g 1, 0, none⟩), .pointer (some ⟨g 2, 0, none⟩), .pointer (some ⟨g 3, 0, none⟩), .pointer (some ⟨g 4, 0, none⟩), .pointer (some ⟨g 5, 0, none⟩), .pointer (some ⟨g 6, 0, none⟩), .agg E,
    .agg E, .agg E, .agg E, .agg E, .agg E, .agg E, .agg E, undef, undef, undef, undef, undef, undef, undef, undef, undef, undef, undef, undef, undef, undef, undef, undef, undef, undef, undef, undef, undef, undef, undef, undef, undef]
theorem sh_region {w : World} {p : Nat} {Q : Exit → Act → World → Prop} {c0 c1 c2 c3 c4 c5 c6 : FuncId} (hb : Blk w p 159 (shp c0 c1 c2 c3 c4 c5 c6))
    (hQ : ∀ (g : Nat → Nat) w', (∀ j, j < 7 → w.heap.size ≤ g j ∧ Blk w' (g j) 159 (shp c0 c1 c2 c3 c4 c5 c6)) → (∀ j k, j < 7 → k < 7 → g j = g k → j = k) → Fr No w w' → Q .normal ⟨shFrame p (shp c0 c1 c2 c3 c4 c5 c6) g, []⟩ w') :
    Code.wp Tryz.prog sh2 Q ⟨#[.map none, .pointer (some ⟨p, 0, none⟩), undef, undef, undef, undef, undef, undef, undef, .agg (shp c0 c1 c2 c3 c4 c5 c6),
      undef, undef, undef, undef, undef, undef, undef, undef, undef, undef, undef, undef, undef, undef, undef, undef, undef, undef, undef, undef, undef, undef, undef, undef, undef, undef, undef, undef, undef, undef, undef, undef], []⟩ w := by
  have e : sh2 = .region 2 (opsOf sh2) true := by kernel_rfl
  rw [e]
  refine wp_region_inv (by kernel_rfl) (ShInv w p (shp c0 c1 c2 c3 c4 c5 c6)) (fun l a w' h => by rw [h.size, sh2_size]) (fun i o ho => okB_back (sh2_at ho)) (fun l a w' i o h ho hf hall => sh_step hb.lt l a w' i o h ho hf hall) (fun l a w' h hl => ?_) ?_
  · rw [sh2_size] at hl
    obtain ⟨g, m1, m2, m3⟩ := h.mem
    have ha : a = ⟨shFrame p (shp c0 c1 c2 c3 c4 c5 c6) g, []⟩ := by
      obtain ⟨ts, ds⟩ := a
      have hd := h.defs
      have hlen := h.len
      simp only at hd hlen m1
      subst hd
      congr 1
      refine Array.ext (by rw [hlen]; rfl) fun k hk hk2 => ?_
      have h1 := m1 k (by omega)
      rw [Array.getElem?_eq_getElem hk] at h1
      injection h1 with h1
      rw [h1]
      have hk3 : k < 42 := by omega
      clear h1 hk m1 m2 m3 hQ h e hb
      match k, hk3 with
      | 0, _ | 1, _ | 9, _ | 17, _ | 18, _ | 19, _ | 20, _ | 21, _ | 22, _ | 23, _ | 24, _ | 25, _ | 26, _ | 27, _ | 28, _ | 29, _ | 30, _ | 31, _ | 32, _ | 33, _ | 34, _ | 35, _ | 36, _ | 37, _ | 38, _ | 39, _ | 40, _ | 41, _ => rfl
      | 2, _ => simp [shSlot, shFrame, hl 7 (by omega)]
      | 3, _ => simp [shSlot, shFrame, hl 8 (by omega)]
      | 4, _ => simp [shSlot, shFrame, hl 9 (by omega)]
      | 5, _ => simp [shSlot, shFrame, hl 10 (by omega)]
      | 6, _ => simp [shSlot, shFrame, hl 11 (by omega)]
      | 7, _ => simp [shSlot, shFrame, hl 12 (by omega)]
      | 8, _ => simp [shSlot, shFrame, hl 13 (by omega)]
      | 10, _ => simp [shSlot, shFrame, hl 0 (by omega)]
      | 11, _ => simp [shSlot, shFrame, hl 1 (by omega)]
      | 12, _ => simp [shSlot, shFrame, hl 2 (by omega)]
      | 13, _ => simp [shSlot, shFrame, hl 3 (by omega)]
      | 14, _ => simp [shSlot, shFrame, hl 4 (by omega)]
      | 15, _ => simp [shSlot, shFrame, hl 5 (by omega)]
      | 16, _ => simp [shSlot, shFrame, hl 6 (by omega)]
      | n + 42, h => exact absurd h (by omega)
    rw [ha]
    refine hQ g w' (fun j hj => ?_) (fun j k hj hk => m3 j k hj hk (hl _ (by omega)) (hl _ (by omega))) h.fr
    have h2 := m2 j hj (hl _ (by omega))
    rw [hl (14 + j) (by omega)] at h2
    exact h2
  · rw [sh2_size]
    have hl0 : ∀ n, (Array.replicate 21 false).getD n false = false := fun n => by
      rcases Nat.lt_or_ge n 21 with h | h
      · simp [h]
      · simp [h]
    refine ⟨by simp, rfl, rfl, hb.drew, (Fr.refl No w).drew, fun j hj hl => (by rw [hl0] at hl; cases hl), fun _ => 0, fun k hk => ?_, fun j hj hl => (by rw [hl0] at hl; cases hl), fun j k hj hk hl => (by rw [hl0] at hl; cases hl)⟩
    unfold shSlot
    simp only [hl0]
    match k, hk with
    | 0, _ | 1, _ | 2, _ | 3, _ | 4, _ | 5, _ | 6, _ | 7, _ | 8, _ | 9, _ | 10, _ | 11, _ | 12, _ | 13, _ | 14, _ | 15, _ | 16, _ | 17, _ | 18, _ | 19, _ | 20, _ | 21, _ | 22, _ | 23, _ | 24, _ | 25, _ | 26, _ | 27, _ | 28, _ | 29, _ | 30, _ | 31, _ | 32, _ | 33, _ | 34, _ | 35, _ | 36, _ | 37, _ | 38, _ | 39, _ | 40, _ | 41, _ => rfl
    | n + 42, h => exact absurd h (by omega)
end Go.Proofs.YtcpgamidimfflaaGreat
namespace Go.Proofs.YtcpgamidimfflaaGreat
open Go.RowKit Go.My Go.Maps
set_option linter.unusedSimpArgs false
set_option linter.unusedVariables false
def shapeF (k : Int) : Option Value :=
  if k = 7 then some (.agg (shp 115 109 110 111 112 113 114))
  else if k = 6 then some (.agg (shp 108 109 110 111 118 113 114))
  else if k = 5 then some (.agg (shp 115 109 110 111 112 122 114))
  else if k = 4 then some (.agg (shp 115 121 120 111 118 122 114))
  else if k = 3 then some (.agg (shp 115 109 120 111 112 113 114))
  else if k = 2 then some (.agg (shp 108 109 110 117 118 113 119))
  else if k = 1 then some (.agg (shp 115 109 116 111 112 113 114))
  else none
def S7 (w : World) (g : Nat → Nat) (F : Nat → Array Value) : Prop := ∀ j, j < 7 → Blk w (g j) 159 (F j)
def Inj7 (g : Nat → Nat) : Prop := ∀ j k, j < 7 → k < 7 → g j = g k → j = k
theorem S7.set_ {w : World} {g : Nat → Nat} {F : Nat → Array Value} (h : S7 w g F) (hi : Inj7 g) (i k : Nat) (hk : i < 7) (v : Value) : S7 (w.setCell ⟨g i, k, none⟩ v) g (fun j => if j = i then (F j).setIfInBounds k v else F j) := fun j hj => by
  by_cases e : j = i
  · subst e
    simp only [if_pos]
    exact (h j hj).set_ k v
  · simp only [if_neg e]
    exact (h j hj).far (fun e2 => e (hi j i hj hk e2)) v
theorem S7.fr {w w' : World} {g : Nat → Nat} {F : Nat → Array Value} {S : Nat → Prop} (h : S7 w g F) (hf : Fr S w w') (hn : ∀ j, j < 7 → ¬ S (g j)) : S7 w' g F := fun j hj => (h j hj).fr hf (hn j hj)
theorem S7.congr {w : World} {g : Nat → Nat} {F G : Nat → Array Value} (h : S7 w g F) (e : ∀ j, j < 7 → F j = G j) : S7 w g G := fun j hj => by rw [← e j hj]; exact h j hj
def shE : Array Value := shp 108 109 110 111 112 113 114
def shFin (j : Nat) : Array Value :=
  if j = 0 then shp 115 109 116 111 112 113 114
  else if j = 1 then shp 108 109 110 117 118 113 119
  else if j = 2 then shp 115 109 120 111 112 113 114
  else if j = 3 then shp 115 121 120 111 118 122 114
  else if j = 4 then shp 115 109 110 111 112 122 114
  else if j = 5 then shp 108 109 110 111 118 113 114
  else shp 115 109 110 111 112 113 114
set_option maxRecDepth 100000 in
set_option maxHeartbeats 4000000 in
theorem shapes_any (w : World) : Calls Tryz.prog 82 #[] w fun e w' => ∃ m, e = .returned (.map (some m)) ∧ Tab Tryz.prog 3 w' m 7 shapeF ∧ Fr No w w' := by
  have hb := Blk.new w 159 shE
  have hfw : Fr No w (w.alloc (.cells shE 159)) := (Fr.refl _ _).alloc _
  go_enter Tryz.func82, Tryz.ntmps82
  go_wp2
  refine sh_region (c0 := 108) (c1 := 109) (c2 := 110) (c3 := 111) (c4 := 112) (c5 := 113) (c6 := 114) hb fun g w2 hS hI hf2 => ?_
  have HI : Hid (Inj7 g) := hI
  have HS : Hid (S7 w2 g (fun _ => shE)) := fun j hj => (hS j hj).2
  have HG : Hid (∀ j, j < 7 → w.heap.size ≤ g j) := fun j hj => by
    have := (hS j hj).1
    rw [World.size_alloc] at this
    omega
  have HF : Hid (Fr No w w2) := hfw.trans hf2
  clear hb hfw hS hI hf2
  unfold shFrame
  have hx := HS.out 0 (by omega)
  have x0 := hx.cell 0
  have f0 := hx.frozen 0
  have x2 := hx.cell 2
  have f2 := hx.frozen 2
  simp only [shE, shp, fnV, if_true, if_false, List.getElem?_toArray, List.getElem?_cons_zero, List.getElem?_cons_succ, Array.getElem?_setIfInBounds, Nat.reduceEqDiff] at x0 x2
  go_upto_region 4 with (fail)
  have HS' := Lib.hid ((HS.out.set_ HI.out 0 0 (by omega) (.func (.func 115) #[] #[])).set_ HI.out 0 2 (by omega) (.func (.func 116) #[] #[]))
  have HF' : Hid (Fr No w _) := ((HF.out.setCell (p := ⟨g 0, 0, none⟩) (fun h => absurd h (by have := HG.out 0 (by omega); simp only; omega)) (.func (.func 115) #[] #[])).setCell (p := ⟨g 0, 2, none⟩) (fun h => absurd h (by have := HG.out 0 (by omega); simp only; omega)) (.func (.func 116) #[] #[]))
  clear hx x0 f0 x2 f2 HS HF
  have HS := HS'
  have HF := HF'
  clear HS' HF'
  generalize ((w2.setCell ⟨g 0, 0, none⟩ (.func (.func 115) #[] #[])).setCell ⟨g 0, 2, none⟩ (.func (.func 116) #[] #[])) = w3 at *
  have hx := HS.out 1 (by omega)
  have x3 := hx.cell 3
  have f3 := hx.frozen 3
  have x4 := hx.cell 4
  have f4 := hx.frozen 4
  have x6 := hx.cell 6
  have f6 := hx.frozen 6
  simp only [shE, shp, fnV, if_true, if_false, List.getElem?_toArray, List.getElem?_cons_zero, List.getElem?_cons_succ, Array.getElem?_setIfInBounds, Nat.reduceEqDiff] at x3 x4 x6
  go_upto_region 5 with (fail)
  have HS' := Lib.hid (((HS.out.set_ HI.out 1 3 (by omega) (.func (.func 117) #[] #[])).set_ HI.out 1 4 (by omega) (.func (.func 118) #[] #[])).set_ HI.out 1 6 (by omega) (.func (.func 119) #[] #[]))
  have HF' : Hid (Fr No w _) := (((HF.out.setCell (p := ⟨g 1, 3, none⟩) (fun h => absurd h (by have := HG.out 1 (by omega); simp only; omega)) (.func (.func 117) #[] #[])).setCell (p := ⟨g 1, 4, none⟩) (fun h => absurd h (by have := HG.out 1 (by omega); simp only; omega)) (.func (.func 118) #[] #[])).setCell (p := ⟨g 1, 6, none⟩) (fun h => absurd h (by have := HG.out 1 (by omega); simp only; omega)) (.func (.func 119) #[] #[]))
  clear hx x3 f3 x4 f4 x6 f6 HS HF
  have HS := HS'
  have HF := HF'
  clear HS' HF'
  generalize (((w3.setCell ⟨g 1, 3, none⟩ (.func (.func 117) #[] #[])).setCell ⟨g 1, 4, none⟩ (.func (.func 118) #[] #[])).setCell ⟨g 1, 6, none⟩ (.func (.func 119) #[] #[])) = w4 at *
  have hx := HS.out 2 (by omega)
  have x0 := hx.cell 0
  have f0 := hx.frozen 0
  have x2 := hx.cell 2
  have f2 := hx.frozen 2
  simp only [shE, shp, fnV, if_true, if_false, List.getElem?_toArray, List.getElem?_cons_zero, List.getElem?_cons_succ, Array.getElem?_setIfInBounds, Nat.reduceEqDiff] at x0 x2
  go_upto_region 6 with (fail)
  have HS' := Lib.hid ((HS.out.set_ HI.out 2 0 (by omega) (.func (.func 115) #[] #[])).set_ HI.out 2 2 (by omega) (.func (.func 120) #[] #[]))
  have HF' : Hid (Fr No w _) := ((HF.out.setCell (p := ⟨g 2, 0, none⟩) (fun h => absurd h (by have := HG.out 2 (by omega); simp only; omega)) (.func (.func 115) #[] #[])).setCell (p := ⟨g 2, 2, none⟩) (fun h => absurd h (by have := HG.out 2 (by omega); simp only; omega)) (.func (.func 120) #[] #[]))
  clear hx x0 f0 x2 f2 HS HF
  have HS := HS'
  have HF := HF'
  clear HS' HF'
  generalize ((w4.setCell ⟨g 2, 0, none⟩ (.func (.func 115) #[] #[])).setCell ⟨g 2, 2, none⟩ (.func (.func 120) #[] #[])) = w5 at *
  have hx := HS.out 3 (by omega)
  have x0 := hx.cell 0
  have f0 := hx.frozen 0
  have x1 := hx.cell 1
  have f1 := hx.frozen 1
  have x2 := hx.cell 2
  have f2 := hx.frozen 2
  simp only [shE, shp, fnV, if_true, if_false, List.getElem?_toArray, List.getElem?_cons_zero, List.getElem?_cons_succ, Array.getElem?_setIfInBounds, Nat.reduceEqDiff] at x0 x1 x2
  go_upto_region 7 with (fail)
  have HS' := Lib.hid (((HS.out.set_ HI.out 3 0 (by omega) (.func (.func 115) #[] #[])).set_ HI.out 3 1 (by omega) (.func (.func 121) #[] #[])).set_ HI.out 3 2 (by omega) (.func (.func 120) #[] #[]))
  have HF' : Hid (Fr No w _) := (((HF.out.setCell (p := ⟨g 3, 0, none⟩) (fun h => absurd h (by have := HG.out 3 (by omega); simp only; omega)) (.func (.func 115) #[] #[])).setCell (p := ⟨g 3, 1, none⟩) (fun h => absurd h (by have := HG.out 3 (by omega); simp only; omega)) (.func (.func 121) #[] #[])).setCell (p := ⟨g 3, 2, none⟩) (fun h => absurd h (by have := HG.out 3 (by omega); simp only; omega)) (.func (.func 120) #[] #[]))
  clear hx x0 f0 x1 f1 x2 f2 HS HF
  have HS := HS'
  have HF := HF'
  clear HS' HF'
  generalize (((w5.setCell ⟨g 3, 0, none⟩ (.func (.func 115) #[] #[])).setCell ⟨g 3, 1, none⟩ (.func (.func 121) #[] #[])).setCell ⟨g 3, 2, none⟩ (.func (.func 120) #[] #[])) = w6 at *
  have hx := HS.out 3 (by omega)
  have x5 := hx.cell 5
  have f5 := hx.frozen 5
  have x4 := hx.cell 4
  have f4 := hx.frozen 4
  simp only [shE, shp, fnV, if_true, if_false, List.getElem?_toArray, List.getElem?_cons_zero, List.getElem?_cons_succ, Array.getElem?_setIfInBounds, Nat.reduceEqDiff] at x5 x4
  go_upto_region 8 with (fail)
  have HS' := Lib.hid ((HS.out.set_ HI.out 3 5 (by omega) (.func (.func 122) #[] #[])).set_ HI.out 3 4 (by omega) (.func (.func 118) #[] #[]))
  have HF' : Hid (Fr No w _) := ((HF.out.setCell (p := ⟨g 3, 5, none⟩) (fun h => absurd h (by have := HG.out 3 (by omega); simp only; omega)) (.func (.func 122) #[] #[])).setCell (p := ⟨g 3, 4, none⟩) (fun h => absurd h (by have := HG.out 3 (by omega); simp only; omega)) (.func (.func 118) #[] #[]))
  clear hx x5 f5 x4 f4 HS HF
  have HS := HS'
  have HF := HF'
  clear HS' HF'
  generalize ((w6.setCell ⟨g 3, 5, none⟩ (.func (.func 122) #[] #[])).setCell ⟨g 3, 4, none⟩ (.func (.func 118) #[] #[])) = w7 at *
  have hx := HS.out 4 (by omega)
  have x0 := hx.cell 0
  have f0 := hx.frozen 0
  have x5 := hx.cell 5
  have f5 := hx.frozen 5
  simp only [shE, shp, fnV, if_true, if_false, List.getElem?_toArray, List.getElem?_cons_zero, List.getElem?_cons_succ, Array.getElem?_setIfInBounds, Nat.reduceEqDiff] at x0 x5
  go_upto_region 9 with (fail)
  have HS' := Lib.hid ((HS.out.set_ HI.out 4 0 (by omega) (.func (.func 115) #[] #[])).set_ HI.out 4 5 (by omega) (.func (.func 122) #[] #[]))
  have HF' : Hid (Fr No w _) := ((HF.out.setCell (p := ⟨g 4, 0, none⟩) (fun h => absurd h (by have := HG.out 4 (by omega); simp only; omega)) (.func (.func 115) #[] #[])).setCell (p := ⟨g 4, 5, none⟩) (fun h => absurd h (by have := HG.out 4 (by omega); simp only; omega)) (.func (.func 122) #[] #[]))
  clear hx x0 f0 x5 f5 HS HF
  have HS := HS'
  have HF := HF'
  clear HS' HF'
  generalize ((w7.setCell ⟨g 4, 0, none⟩ (.func (.func 115) #[] #[])).setCell ⟨g 4, 5, none⟩ (.func (.func 122) #[] #[])) = w8 at *
  have hx := HS.out 5 (by omega)
  have x4 := hx.cell 4
  have f4 := hx.frozen 4
  simp only [shE, shp, fnV, if_true, if_false, List.getElem?_toArray, List.getElem?_cons_zero, List.getElem?_cons_succ, Array.getElem?_setIfInBounds, Nat.reduceEqDiff] at x4
  go_upto_region 10 with (fail)
  have HS' := Lib.hid (HS.out.set_ HI.out 5 4 (by omega) (.func (.func 118) #[] #[]))
  have HF' : Hid (Fr No w _) := (HF.out.setCell (p := ⟨g 5, 4, none⟩) (fun h => absurd h (by have := HG.out 5 (by omega); simp only; omega)) (.func (.func 118) #[] #[]))
  clear hx x4 f4 HS HF
  have HS := HS'
  have HF := HF'
  clear HS' HF'
  generalize (w8.setCell ⟨g 5, 4, none⟩ (.func (.func 118) #[] #[])) = w9 at *
  have hx := HS.out 6 (by omega)
  have x0 := hx.cell 0
  have f0 := hx.frozen 0
  simp only [shE, shp, fnV, if_true, if_false, List.getElem?_toArray, List.getElem?_cons_zero, List.getElem?_cons_succ, Array.getElem?_setIfInBounds, Nat.reduceEqDiff] at x0
  go_upto_region 11 with (fail)
  have HS' := Lib.hid (HS.out.set_ HI.out 6 0 (by omega) (.func (.func 115) #[] #[]))
  have HF' : Hid (Fr No w _) := (HF.out.setCell (p := ⟨g 6, 0, none⟩) (fun h => absurd h (by have := HG.out 6 (by omega); simp only; omega)) (.func (.func 115) #[] #[]))
  clear hx x0 f0 HS HF
  have HS := HS'
  have HF := HF'
  clear HS' HF'
  generalize (w9.setCell ⟨g 6, 0, none⟩ (.func (.func 115) #[] #[])) = w10 at *
  have HS1 := Lib.hid (HS.out.congr (G := shFin) fun j hj => by match j, hj with
    | 0, _ | 1, _ | 2, _ | 3, _ | 4, _ | 5, _ | 6, _ => rfl)
  clear HS
  have HS := HS1
  clear HS1
  have HS0 := HS
  have HT : Hid (Tab Tryz.prog 3 (w10.alloc (.map #[] 0)) w10.heap.size 0 (fun _ => none)) := Tab.made w10
  have HM := Lib.hid (HF.out.alloc (.map #[] 0))
  have HS1 := Lib.hid (HS.out.fr ((Fr.refl No w10).alloc (.map #[] 0)) (fun _ _ h => h))
  clear HS
  have HS := HS1
  clear HS1
  have hmk := @run_makeMap Tryz.prog
  have HN : Hid (∀ j, j < 7 → g j ≠ w10.heap.size) := fun j hj => by
    have := (HS.out j hj).lt
    have h2 : g j < w10.heap.size := (HS0.out j hj).lt
    omega
  have HZ : Hid (w.heap.size ≤ w10.heap.size) := HF.out.size
  clear HS0
  clear HF
  have hx := HS.out 0 (by omega)
  have x00 := hx.cell 0
  have x01 := hx.cell 1
  have x02 := hx.cell 2
  have x03 := hx.cell 3
  have x04 := hx.cell 4
  have x05 := hx.cell 5
  have x06 := hx.cell 6
  simp only [shFin, shp, fnV, if_true, if_false, List.getElem?_toArray, List.getElem?_cons_zero, List.getElem?_cons_succ, Nat.reduceEqDiff] at x00 x01 x02 x03 x04 x05 x06
  clear hx
  obtain ⟨u0, hr0, hT0, hf0⟩ := HT.out.put Tryz.underlying3 Tryz.underlying161 (by unfold maxLen; omega) 1 (by unfold In64; omega) (.agg (shFin 0))
  simp only [shFin, shp, fnV, if_true, if_false, Nat.reduceEqDiff] at hr0
  have HT' := Lib.hid hT0
  have HS' := Lib.hid (HS.out.fr hf0 (fun j hj h => HN.out j hj h))
  have HM' : Hid (Fr No w u0) := HM.out.trans' hf0 (fun i hi hlt => by have : i = w10.heap.size := hi; have := HZ.out; omega)
  clear HT HS HM hT0 hf0
  have HT := HT'
  have HS := HS'
  have HM := HM'
  clear HT' HS' HM'
  have hx := HS.out 1 (by omega)
  have x10 := hx.cell 0
  have x11 := hx.cell 1
  have x12 := hx.cell 2
  have x13 := hx.cell 3
  have x14 := hx.cell 4
  have x15 := hx.cell 5
  have x16 := hx.cell 6
  simp only [shFin, shp, fnV, if_true, if_false, List.getElem?_toArray, List.getElem?_cons_zero, List.getElem?_cons_succ, Nat.reduceEqDiff] at x10 x11 x12 x13 x14 x15 x16
  clear hx
  obtain ⟨u1, hr1, hT1, hf1⟩ := HT.out.put Tryz.underlying3 Tryz.underlying161 (by unfold maxLen; omega) 2 (by unfold In64; omega) (.agg (shFin 1))
  simp only [shFin, shp, fnV, if_true, if_false, Nat.reduceEqDiff] at hr1
  have HT' := Lib.hid hT1
  have HS' := Lib.hid (HS.out.fr hf1 (fun j hj h => HN.out j hj h))
  have HM' : Hid (Fr No w u1) := HM.out.trans' hf1 (fun i hi hlt => by have : i = w10.heap.size := hi; have := HZ.out; omega)
  clear HT HS HM hT1 hf1
  have HT := HT'
  have HS := HS'
  have HM := HM'
  clear HT' HS' HM'
  have hx := HS.out 2 (by omega)
  have x20 := hx.cell 0
  have x21 := hx.cell 1
  have x22 := hx.cell 2
  have x23 := hx.cell 3
  have x24 := hx.cell 4
  have x25 := hx.cell 5
  have x26 := hx.cell 6
  simp only [shFin, shp, fnV, if_true, if_false, List.getElem?_toArray, List.getElem?_cons_zero, List.getElem?_cons_succ, Nat.reduceEqDiff] at x20 x21 x22 x23 x24 x25 x26
  clear hx
  obtain ⟨u2, hr2, hT2, hf2⟩ := HT.out.put Tryz.underlying3 Tryz.underlying161 (by unfold maxLen; omega) 3 (by unfold In64; omega) (.agg (shFin 2))
  simp only [shFin, shp, fnV, if_true, if_false, Nat.reduceEqDiff] at hr2
  have HT' := Lib.hid hT2
  have HS' := Lib.hid (HS.out.fr hf2 (fun j hj h => HN.out j hj h))
  have HM' : Hid (Fr No w u2) := HM.out.trans' hf2 (fun i hi hlt => by have : i = w10.heap.size := hi; have := HZ.out; omega)
  clear HT HS HM hT2 hf2
  have HT := HT'
  have HS := HS'
  have HM := HM'
  clear HT' HS' HM'
  have hx := HS.out 3 (by omega)
  have x30 := hx.cell 0
  have x31 := hx.cell 1
  have x32 := hx.cell 2
  have x33 := hx.cell 3
  have x34 := hx.cell 4
  have x35 := hx.cell 5
  have x36 := hx.cell 6
  simp only [shFin, shp, fnV, if_true, if_false, List.getElem?_toArray, List.getElem?_cons_zero, List.getElem?_cons_succ, Nat.reduceEqDiff] at x30 x31 x32 x33 x34 x35 x36
  clear hx
  obtain ⟨u3, hr3, hT3, hf3⟩ := HT.out.put Tryz.underlying3 Tryz.underlying161 (by unfold maxLen; omega) 4 (by unfold In64; omega) (.agg (shFin 3))
  simp only [shFin, shp, fnV, if_true, if_false, Nat.reduceEqDiff] at hr3
  have HT' := Lib.hid hT3
  have HS' := Lib.hid (HS.out.fr hf3 (fun j hj h => HN.out j hj h))
  have HM' : Hid (Fr No w u3) := HM.out.trans' hf3 (fun i hi hlt => by have : i = w10.heap.size := hi; have := HZ.out; omega)
  clear HT HS HM hT3 hf3
  have HT := HT'
  have HS := HS'
  have HM := HM'
  clear HT' HS' HM'
  have hx := HS.out 4 (by omega)
  have x40 := hx.cell 0
  have x41 := hx.cell 1
  have x42 := hx.cell 2
  have x43 := hx.cell 3
  have x44 := hx.cell 4
  have x45 := hx.cell 5
  have x46 := hx.cell 6
  simp only [shFin, shp, fnV, if_true, if_false, List.getElem?_toArray, List.getElem?_cons_zero, List.getElem?_cons_succ, Nat.reduceEqDiff] at x40 x41 x42 x43 x44 x45 x46
  clear hx
  obtain ⟨u4, hr4, hT4, hf4⟩ := HT.out.put Tryz.underlying3 Tryz.underlying161 (by unfold maxLen; omega) 5 (by unfold In64; omega) (.agg (shFin 4))
  simp only [shFin, shp, fnV, if_true, if_false, Nat.reduceEqDiff] at hr4
  have HT' := Lib.hid hT4
  have HS' := Lib.hid (HS.out.fr hf4 (fun j hj h => HN.out j hj h))
  have HM' : Hid (Fr No w u4) := HM.out.trans' hf4 (fun i hi hlt => by have : i = w10.heap.size := hi; have := HZ.out; omega)
  clear HT HS HM hT4 hf4
  have HT := HT'
  have HS := HS'
  have HM := HM'
  clear HT' HS' HM'
  have hx := HS.out 5 (by omega)
  have x50 := hx.cell 0
  have x51 := hx.cell 1
  have x52 := hx.cell 2
  have x53 := hx.cell 3
  have x54 := hx.cell 4
  have x55 := hx.cell 5
  have x56 := hx.cell 6
  simp only [shFin, shp, fnV, if_true, if_false, List.getElem?_toArray, List.getElem?_cons_zero, List.getElem?_cons_succ, Nat.reduceEqDiff] at x50 x51 x52 x53 x54 x55 x56
  clear hx
  obtain ⟨u5, hr5, hT5, hf5⟩ := HT.out.put Tryz.underlying3 Tryz.underlying161 (by unfold maxLen; omega) 6 (by unfold In64; omega) (.agg (shFin 5))
  simp only [shFin, shp, fnV, if_true, if_false, Nat.reduceEqDiff] at hr5
  have HT' := Lib.hid hT5
  have HS' := Lib.hid (HS.out.fr hf5 (fun j hj h => HN.out j hj h))
  have HM' : Hid (Fr No w u5) := HM.out.trans' hf5 (fun i hi hlt => by have : i = w10.heap.size := hi; have := HZ.out; omega)
  clear HT HS HM hT5 hf5
  have HT := HT'
  have HS := HS'
  have HM := HM'
  clear HT' HS' HM'
  have hx := HS.out 6 (by omega)
  have x60 := hx.cell 0
  have x61 := hx.cell 1
  have x62 := hx.cell 2
  have x63 := hx.cell 3
  have x64 := hx.cell 4
  have x65 := hx.cell 5
  have x66 := hx.cell 6
  simp only [shFin, shp, fnV, if_true, if_false, List.getElem?_toArray, List.getElem?_cons_zero, List.getElem?_cons_succ, Nat.reduceEqDiff] at x60 x61 x62 x63 x64 x65 x66
  clear hx
  obtain ⟨u6, hr6, hT6, hf6⟩ := HT.out.put Tryz.underlying3 Tryz.underlying161 (by unfold maxLen; omega) 7 (by unfold In64; omega) (.agg (shFin 6))
  simp only [shFin, shp, fnV, if_true, if_false, Nat.reduceEqDiff] at hr6
  have HT' := Lib.hid hT6
  have HS' := Lib.hid (HS.out.fr hf6 (fun j hj h => HN.out j hj h))
  have HM' : Hid (Fr No w u6) := HM.out.trans' hf6 (fun i hi hlt => by have : i = w10.heap.size := hi; have := HZ.out; omega)
  clear HT HS HM hT6 hf6
  have HT := HT'
  have HS := HS'
  have HM := HM'
  clear HT' HS' HM'
  clear HS HN HZ HI HG
  go_wp2
  go_ret
  exact ⟨_, rfl, HT.out, HM.out⟩
end Go.Proofs.YtcpgamidimfflaaGreat
namespace Go.Proofs.YtcpgamidimfflaaGreat
open Go.RowKit Go.My Go.Maps
set_option linter.unusedSimpArgs false
set_option linter.unusedVariables false
attribute [local go_sem ↓] Go.wp_at_zero Go.wp_at_succ
def AnsB (f : FuncId) (args : Array Value) (b : Bool) : Prop := ∀ W, Calls Tryz.prog f args W fun e w' => e = .returned (.bool b) ∧ Fr No W w'
theorem ans1 (s : ByteArray) : AnsB 108 #[.string s] s.data.toList.isEmpty := fun W => by
  go_enter Tryz.func108, Tryz.ntmps108
  go_wp2
  go_ret
  refine ⟨?_, Fr.refl _ _⟩
  rw [← ByteArray.toList_eq]
  rfl
theorem ans7 (s : ByteArray) : AnsB 114 #[.string s] s.data.toList.isEmpty := fun W => by
  go_enter Tryz.func114, Tryz.ntmps114
  go_wp2
  go_ret
  refine ⟨?_, Fr.refl _ _⟩
  rw [← ByteArray.toList_eq]
  rfl
theorem ans2 (s t : ByteArray) : AnsB 109 #[.string s, .string t] s.data.toList.isEmpty := fun W => by
  go_enter Tryz.func109, Tryz.ntmps109
  go_wp2
  go_ret
  refine ⟨?_, Fr.refl _ _⟩
  rw [← ByteArray.toList_eq]
  rfl
theorem ans3 (n : Int) : AnsB 110 #[.int .i64 n] (n == 0) := fun W => by
  go_enter Tryz.func110, Tryz.ntmps110
  go_wp2
  go_ret
  exact ⟨rfl, Fr.refl _ _⟩
theorem ans5 (n : Int) : AnsB 112 #[.int .i64 n] (n == 0) := fun W => by
  go_enter Tryz.func112, Tryz.ntmps112
  go_wp2
  go_ret
  exact ⟨rfl, Fr.refl _ _⟩
theorem ans6 (n : Int) : AnsB 113 #[.int .i64 n] (n == 0) := fun W => by
  go_enter Tryz.func113, Tryz.ntmps113
  go_wp2
  go_ret
  exact ⟨rfl, Fr.refl _ _⟩
theorem ans8 (n : Int) : AnsB 116 #[.int .i64 n] (decide (0 ≤ n)) := fun W => by
  go_enter Tryz.func116, Tryz.ntmps116
  go_wp2
  go_ret
  exact ⟨rfl, Fr.refl _ _⟩
theorem ans4 (A : Option Addr) (n c : Nat) : AnsB 111 #[.slice A n c] (n == 0) := fun W => by
  go_enter Tryz.func111, Tryz.ntmps111
  go_wp2
  go_ret
  refine ⟨?_, Fr.refl _ _⟩
  cases n <;> simp <;> omega
theorem ansSum (n : Int) : AnsB 120 #[.int .i64 n] (decide (1 ≤ n)) := fun W => by
  go_enter Tryz.func120, Tryz.ntmps120
  go_wp2
  go_ret
  exact ⟨rfl, Fr.refl _ _⟩
theorem ansPeriod (n : Int) : AnsB 118 #[.int .i64 n] (decide (1 ≤ n) && decide (n ≤ 1000)) := fun W => by
  by_cases h : 1 ≤ n
  · go_enter Tryz.func118, Tryz.ntmps118
    go_wp2
    go_ret
    exact ⟨by simp [h], Fr.refl _ _⟩
  · go_enter Tryz.func118, Tryz.ntmps118
    go_wp2
    go_ret
    exact ⟨by rw [show decide (1 ≤ n) = false from decide_eq_false (by omega)]; rfl, Fr.refl _ _⟩
theorem ansHold (n : Int) : AnsB 122 #[.int .i64 n] (decide (1 ≤ n) && decide (n ≤ 9999)) := fun W => by
  by_cases h : 1 ≤ n
  · go_enter Tryz.func122, Tryz.ntmps122
    go_wp2
    go_ret
    exact ⟨by simp [h], Fr.refl _ _⟩
  · go_enter Tryz.func122, Tryz.ntmps122
    go_wp2
    go_ret
    exact ⟨by rw [show decide (1 ≤ n) = false from decide_eq_false (by omega)]; rfl, Fr.refl _ _⟩
theorem ansNote (s : ByteArray) : AnsB 119 #[.string s] (decide (s.data.toList.length ≤ 20)) := fun W => by
  go_enter Tryz.func119, Tryz.ntmps119
  go_wp2
  go_ret
  refine ⟨?_, Fr.refl _ _⟩
  obtain ⟨⟨l⟩⟩ := s
  simp [ByteArray.size]
  omega
theorem ansName (s : ByteArray) (hs : s.size ≤ maxLen) : AnsB 115 #[.string s] (nameB s.data.toList) := fun W => (name_any s W hs).mono fun e w' h => ⟨h.1, Fr.of_below h.2 _⟩
theorem ansPeer (s t : ByteArray) (hs : s.size ≤ maxLen) : AnsB 121 #[.string s, .string t] (nameB s.data.toList && !(s.data.toList == t.data.toList)) := fun W => by
  have HN := Lib.hid (ansName s hs)
  cases hn : nameB s.data.toList
  · rw [hn] at HN
    clear hn
    go_enter Tryz.func121, Tryz.ntmps121
    go_wp2_with fail
    refine (HN.out _).mono ?_
    rintro e w1 ⟨rfl, hf⟩
    go_wp2
    go_ret
    exact ⟨rfl, hf⟩
  · rw [hn] at HN
    clear hn
    go_enter Tryz.func121, Tryz.ntmps121
    go_wp2_with fail
    refine (HN.out _).mono ?_
    rintro e w1 ⟨rfl, hf⟩
    go_wp2
    go_ret
    refine ⟨?_, hf⟩
    rw [← ByteArray.toList_eq, ← ByteArray.toList_eq]
    rfl
def idB (c s : Int) : Bool := decide (0 ≤ c) && (decide (c ≤ 9) && (decide (1 ≤ s) && decide (s ≤ 999)))
theorem ansId (c s : Int) : AnsB 83 #[.agg #[.int .i64 c, .int .i64 s]] (idB c s) := fun W => by
  have hf : Fr No W (W.alloc (.cells #[.int .i64 c, .int .i64 s] 32)) := (Fr.refl _ _).alloc _
  by_cases h1 : 0 ≤ c
  · by_cases h2 : c ≤ 9
    · by_cases h3 : 1 ≤ s
      · go_enter Tryz.func83, Tryz.ntmps83
        go_wp2
        go_ret
        exact ⟨by simp [idB, h1, h2, h3], hf⟩
      · go_enter Tryz.func83, Tryz.ntmps83
        go_wp2
        go_ret
        exact ⟨by unfold idB; rw [decide_eq_true h1, decide_eq_true h2, show decide (1 ≤ s) = false from decide_eq_false (by omega)]; rfl, hf⟩
    · go_enter Tryz.func83, Tryz.ntmps83
      go_wp2
      go_ret
      exact ⟨by unfold idB; rw [decide_eq_true h1, show decide (c ≤ 9) = false from decide_eq_false (by omega)]; rfl, hf⟩
  · go_enter Tryz.func83, Tryz.ntmps83
    go_wp2
    go_ret
    exact ⟨by unfold idB; rw [show decide (0 ≤ c) = false from decide_eq_false (by omega)]; rfl, hf⟩
end Go.Proofs.YtcpgamidimfflaaGreat
