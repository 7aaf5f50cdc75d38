/- The document's book: an order, whatever it is; a new one. The document's book: a new one; replies that are the same. Events in memory, and a desk in memory. The small functions of a desk: New, find, Of, Book, At, slices.Clone of events. What a desk tells: Of, Book, At, Poll. What a desk's readers do: Read, Take, Back. A row of texts searched: slices.IndexFunc and ContainsFunc with a closure, Index and Contains. slices.Contains of texts; an order marked with its accounts; clash.Clash. Desk.Do: what is needed ahead. Desk.Do: its region that lays an event down. Desk.Do. stream.Events. What the laws on streams begin with: the first orders of a list. What the laws on streams are made of: events as the document has them, the same events. What the laws on streams call first. StreamOnce: what the walk needs. The accounts that an order names rise, each once: the walk. The document's readers, in lists: where a name stands, one more, one that has moved. Of no walk. Steps on a desk, as they come in; the document's desk in memory. A text put into a row in order: of no program. The document's own Touches and SameTexts. The document's desk: At, Read. The document's Events. The document's desk: Poll, Move. Both desks, step by step. -/
import Derived.Test.YtjbeaoabhhaiiaaGreatM4
import Derived.Test.YtjbeaoabhhaiiaaGreatM5
import Derived.Test.YtjbeaoabhhaiiaaGreatM2
import Derived.Test.YtjbeaoabhhaiiaaGreatM1
import Derived.Deep.RegionHeld3
import Derived.Deep.RegionLaw
import Derived.Sort.Walk0
import Derived.Test.YtjbeaoabhhaiiaaGreatRefName
import Derived.Deep.RegionHeldLaw
import Derived.Deep.CutBlock
import Derived.Deep.DeepCutAuto
namespace Go.Proofs.YtjbeaoabhhaiiaaGreat
open Go.RowKit Go.My Go.Maps
set_option linter.unusedSimpArgs false
set_option linter.unusedVariables false
attribute [local go_sem ↓] Go.wp_at_zero Go.wp_at_succ

theorem rdo_any (F : Nat → Prop) (r : Rl) (b : Bk) (o : Od) (v : Value) (w : World) (h : RbS w r b) (ho : o.ok) (hv : LgS w F v o.legs) (h100 : o.legs.length ≤ 100) (hF : ∀ k, F k → k < w.heap.size ∧ k ≠ r.c) :
    Calls Tryz.prog 35 #[.pointer (some ⟨r.p, 0, none⟩), o.val v] w (DidR r (doR b o) (doB b o) w) := by
  cases hr : rightO o with
  | false => exact rdo_wrong F r b o v w h ho hv h100 hF hr
  | true =>
    obtain ⟨e1, e2⟩ := doR_eff b o hr
    rw [e1, e2]
    obtain ⟨⟨k1, k2⟩, -⟩ := right_kd hr
    have hk : o.kd = 1 ∨ o.kd = 2 ∨ o.kd = 3 ∨ o.kd = 4 ∨ o.kd = 5 ∨ o.kd = 6 ∨ o.kd = 7 := by omega
    by_cases hc : o.per ≤ b.cl
    · rcases hk with hk | hk | hk | hk | hk | hk | hk
      · exact rdo_open F r b o v w h ho hv h100 hF hr hk
      · exact rdo_post_closed F r b o v w h ho hv h100 hF hr hk hc
      · exact rdo_hold F r b o v w h ho hv h100 hF hr hk
      · exact rdo_capture_closed F r b o v w h ho hv h100 hF hr hk hc
      · exact rdo_release F r b o v w h ho hv h100 hF hr hk
      · exact rdo_close_closed F r b o v w h ho hv h100 hF hr hk hc
      · exact rdo_ask F r b o v w h ho hv h100 hF hr hk
    · rcases hk with hk | hk | hk | hk | hk | hk | hk
      · exact rdo_open F r b o v w h ho hv h100 hF hr hk
      · exact rdo_post F r b o v w h ho hv h100 hF hr hk hc
      · exact rdo_hold F r b o v w h ho hv h100 hF hr hk
      · exact rdo_capture F r b o v w h ho hv h100 hF hr hk hc
      · exact rdo_release F r b o v w h ho hv h100 hF hr hk
      · exact rdo_close F r b o v w h ho hv h100 hF hr hk hc
      · exact rdo_ask F r b o v w h ho hv h100 hF hr hk
end Go.Proofs.YtjbeaoabhhaiiaaGreat

namespace Go.Proofs.YtjbeaoabhhaiiaaGreat
open Go.RowKit Go.My Go.Maps
set_option linter.unusedSimpArgs false
set_option linter.unusedVariables false
attribute [local go_sem ↓] Go.wp_at_zero Go.wp_at_succ

set_option maxRecDepth 100000 in
set_option maxHeartbeats 1000000 in
theorem newr_any (w : World) : Calls Tryz.prog 34 #[] w fun e w' => ∃ r : Rl, e = .returned (.pointer (some ⟨r.p, 0, none⟩)) ∧ RbS w' r bk0 ∧ Fr No w w' ∧ ∀ i, r.wr i → w.heap.size ≤ i := by
  go_enter Tryz.func34, Tryz.ntmps34
  go_wp2
  have hc := Blk.new w 122 #[.slice none 0 0]
  have hh := Blk.new (w.alloc (.cells #[.slice none 0 0] 122)) 125 #[.slice none 0 0]
  have hb := Blk.new ((w.alloc (.cells #[.slice none 0 0] 122)).alloc (.cells #[.slice none 0 0] 125)) 97 #[.pointer (some ⟨w.heap.size, 0, none⟩), .pointer (some ⟨w.heap.size + 1, 0, none⟩), .int .i64 0]
  have hc2 := (hc.alloc (.cells #[.slice none 0 0] 125)).alloc (.cells #[.pointer (some ⟨w.heap.size, 0, none⟩), .pointer (some ⟨w.heap.size + 1, 0, none⟩), .int .i64 0] 97)
  have hh2 := hh.alloc (.cells #[.pointer (some ⟨w.heap.size, 0, none⟩), .pointer (some ⟨w.heap.size + 1, 0, none⟩), .int .i64 0] 97)
  simp only [World.size_alloc] at hc2 hh2 hb
  go_ret
  refine ⟨⟨w.heap.size + 2, w.heap.size, w.heap.size + 1⟩, rfl, ⟨hb, ⟨none, 0, hc2, Nat.le_refl _, Nat.zero_le _, Own.nil _ _ _⟩, ⟨none, 0, hh2, Nat.le_refl _, Nat.zero_le _, Own.nil _ _ _⟩, bki0⟩, (((Fr.refl _ _).alloc _).alloc _).alloc _, fun i hi => ?_⟩
  rcases hi with e | e | e <;> simp only at e <;> omega
theorem rp_eq (n : Nat) (cs : Int → Value) : True := True.intro
end Go.Proofs.YtjbeaoabhhaiiaaGreat

namespace Go.Proofs.YtjbeaoabhhaiiaaGreat
open Go.RowKit Go.My Go.Maps
set_option linter.unusedSimpArgs false
set_option linter.unusedVariables false
attribute [local go_sem ↓] Go.wp_at_zero Go.wp_at_succ

theorem elE : El Tryz.prog 44 71 5 40 := ⟨Tryz.underlying44, by
  have h : (Tryz.prog.info? 71).map (fun i => (i.zero, i.size, i.bytes)) = some (some (.agg #[.int .i64 0, .int .i64 0, .int .i64 0, .int .i64 0, .int .i64 0]), 5, 40) := by kernel_rfl
  obtain ⟨i, hi, hz, hs, hb⟩ := info_parts h
  exact ⟨i, _, hi, hz, hs, hb, rfl⟩, by omega⟩
def evC (e : Ev) : List Value := [.int .i64 e.cl, .int .i64 e.sq, .int .i64 e.kd, .int .i64 e.hv, .int .i64 e.st]
def evs (l : List Ev) : List Value := l.flatMap evC
theorem evs_append (l m : List Ev) : evs (l ++ m) = evs l ++ evs m := by unfold evs; rw [List.flatMap_append]
theorem evs_one (e : Ev) : evs [e] = evC e := by simp [evs]
theorem evs_length (l : List Ev) : (evs l).length = l.length * 5 := by
  induction l with
  | nil => rfl
  | cons a r ih => show (evC a ++ evs r).length = _; rw [List.length_append, ih, List.length_cons]; simp [evC]; omega
theorem evs_ones (l : List Ev) : ∀ y ∈ evs l, y.oneCell' = true := fun y hy => by
  obtain ⟨e, _, h⟩ := List.mem_flatMap.1 hy
  unfold evC at h
  simp only [List.mem_cons, List.not_mem_nil, or_false] at h
  rcases h with rfl | rfl | rfl | rfl | rfl <;> rfl
theorem evs_get (l : List Ev) : ∀ (k i : Nat) (hk : k < l.length), i < 5 → (evs l)[k * 5 + i]? = (evC l[k])[i]? := by
  induction l with
  | nil => intro k i hk; simp at hk
  | cons a r ih =>
    intro k i hk hi
    show (evC a ++ evs r)[k * 5 + i]? = _
    have ha : (evC a).length = 5 := rfl
    cases k with
    | zero =>
      rw [Nat.zero_mul, Nat.zero_add, List.getElem?_append_left (by omega)]
      rfl
    | succ k =>
      rw [List.getElem?_append_right (by omega)]
      have : (k + 1) * 5 + i - (evC a).length = k * 5 + i := by omega
      rw [this, ih k i (by simpa using hk) hi]
      rfl
theorem evs_drop (l : List Ev) (k : Nat) : (evs l).drop (k * 5) = evs (l.drop k) := by
  induction k generalizing l with
  | zero => simp
  | succ k ih =>
    cases l with
    | nil => simp [evs]
    | cons a r =>
      show (evC a ++ evs r).drop ((k + 1) * 5) = evs (r.drop k)
      rw [← ih r, List.drop_append]
      have h1 : (evC a).length = 5 := rfl
      rw [h1, List.drop_eq_nil_of_le (by rw [h1]; omega), show (k + 1) * 5 - 5 = k * 5 by omega, List.nil_append]
theorem evs_take (l : List Ev) (k : Nat) : (evs l).take (k * 5) = evs (l.take k) := by
  induction k generalizing l with
  | zero => simp [evs]
  | succ k ih =>
    cases l with
    | nil => simp [evs]
    | cons a r =>
      show (evC a ++ evs r).take ((k + 1) * 5) = evC a ++ evs (r.take k)
      rw [← ih r, List.take_append]
      have h1 : (evC a).length = 5 := rfl
      rw [h1, List.take_of_length_le (by rw [h1]; omega), show (k + 1) * 5 - 5 = k * 5 by omega]
/-- an event in memory -/
theorem ev_at {w : World} {F : Nat → Prop} {A : Option Addr} {S : List Ev} (h : Rd w F 5 A S.length (evs S)) (k : Nat) (hk : k < S.length) :
    ∃ ad, A = some ad ∧ F ad.block ∧ w.cell? (ad.add (k * 5)) = some (.int .i64 S[k].cl) ∧ w.cell? ⟨(ad.add (k * 5)).block, (ad.add (k * 5)).off + 1, none⟩ = some (.int .i64 S[k].sq) ∧
      w.cell? ⟨(ad.add (k * 5)).block, (ad.add (k * 5)).off + 2, none⟩ = some (.int .i64 S[k].kd) ∧ w.cell? ⟨(ad.add (k * 5)).block, (ad.add (k * 5)).off + 3, none⟩ = some (.int .i64 S[k].hv) ∧
      w.cell? ⟨(ad.add (k * 5)).block, (ad.add (k * 5)).off + 4, none⟩ = some (.int .i64 S[k].st) := by
  obtain ⟨ad, rfl, hF, hc⟩ := h.2 (by omega)
  refine ⟨ad, rfl, hF, hc (k * 5) _ (by have := evs_get S k 0 hk (by omega); rw [Nat.add_zero] at this; rw [this]; rfl), ?_, ?_, ?_, ?_⟩
  · rw [← add_lits ad (k * 5) 1 (by omega)]
    exact hc _ _ (by rw [evs_get S k 1 hk (by omega)]; rfl)
  · rw [← add_lits ad (k * 5) 2 (by omega)]
    exact hc _ _ (by rw [evs_get S k 2 hk (by omega)]; rfl)
  · rw [← add_lits ad (k * 5) 3 (by omega)]
    exact hc _ _ (by rw [evs_get S k 3 hk (by omega)]; rfl)
  · rw [← add_lits ad (k * 5) 4 (by omega)]
    exact hc _ _ (by rw [evs_get S k 4 hk (by omega)]; rfl)

/-! ### a map of rows of events -/
def rowsOf (f : List UInt8 → Option Value) (i : Nat) : Prop := ∃ nm v, f nm = some v ∧ v.ownBlock = some i
def slOf (f : List UInt8 → Option Value) (nm : List UInt8) : Value := (f nm).getD (.slice none 0 0)
structure EvS (w : World) (m c : Nat) (f : List UInt8 → Option Value) (E : List UInt8 → List Ev) : Prop where
  tab : TabS Tryz.prog 9 w m c f
  row : ∀ nm v, f nm = some v → Own w 71 5 v (E nm).length (evs (E nm))
  no : ∀ nm, f nm = none → E nm = []
  apart : ∀ a b va vb, f a = some va → f b = some vb → a ≠ b → ∀ k, va.ownBlock = some k → vb.ownBlock ≠ some k
/-- the map's blocks -/
def evB (m : Nat) (f : List UInt8 → Option Value) (i : Nat) : Prop := i = m ∨ rowsOf f i
section
variable {w w' : World} {m c : Nat} {f : List UInt8 → Option Value} {E : List UInt8 → List Ev}
theorem EvS.sl (h : EvS w m c f E) (nm : List UInt8) : Own w 71 5 (slOf f nm) (E nm).length (evs (E nm)) := by
  unfold slOf
  cases hf : f nm with
  | none =>
    rw [h.no nm hf]
    exact Own.nil _ _ _
  | some v => exact h.row nm v hf
theorem EvS.fr {F : Nat → Prop} (h : EvS w m c f E) (hf : Fr F w w') (hn : ∀ i, evB m f i → ¬ F i) : EvS w' m c f E :=
  ⟨h.tab.fr hf (hn m (.inl rfl)), fun nm v hv => (h.row nm v hv).fr hf (fun k hk => hn k (.inr ⟨nm, v, hv, hk⟩)), h.no, h.apart⟩
theorem EvS.noF (h : EvS w m c f E) (hf : Fr No w w') : EvS w' m c f E := h.fr hf (fun _ _ h => h)
theorem EvS.far (h : EvS w m c f E) {g : Nat} {t : TypeId} {cs : Array Value} (hg : Blk w g t cs) (ht : t ≠ 71) : ¬ evB m f g := by
  rintro (e | ⟨nm, v, hv, hk⟩)
  · exact h.tab.ne_ hg e.symm
  · obtain ⟨cur, hc⟩ := (h.row nm v hv).blk g hk
    exact Blk.ne_ hg hc ht rfl
theorem EvS.farO (h : EvS w m c f E) {t : TypeId} {size n : Nat} {v : Value} {xs : List Value} (ho : Own w t size v n xs) (ht : t ≠ 71) : ∀ k, v.ownBlock = some k → ¬ evB m f k := fun k hk => by
  obtain ⟨cur, hc⟩ := ho.blk k hk
  exact h.far hc ht
theorem EvS.farT (h : EvS w m c f E) {kt : TypeId} {r k : Nat} {g : List UInt8 → Option Value} (hg : TabS Tryz.prog kt w r k g) (hne : r ≠ m) : ¬ evB m f r := by
  rintro (e | ⟨nm, v, hv, hk⟩)
  · exact hne e
  · obtain ⟨cur, hc⟩ := (h.row nm v hv).blk r hk
    exact hg.ne_ hc rfl
theorem EvS.lt (h : EvS w m c f E) : ∀ i, evB m f i → i < w.heap.size := fun i hi => by
  rcases hi with rfl | ⟨nm, v, hv, hk⟩
  · exact h.tab.lt
  · exact (h.row nm v hv).lt i hk
theorem EvS.slB (h : EvS w m c f E) (nm : List UInt8) : ∀ k, (slOf f nm).ownBlock = some k → evB m f k ∧ k ≠ m := fun k hk => by
  unfold slOf at hk
  cases hf : f nm with
  | none => rw [hf] at hk; simp [Value.ownBlock] at hk
  | some v =>
    rw [hf] at hk
    refine ⟨.inr ⟨nm, v, hf, hk⟩, fun e => ?_⟩
    obtain ⟨cur, hc⟩ := (h.row nm v hf).blk k hk
    exact h.tab.ne_ hc e.symm
/-- an event more -/
theorem EvS.app (h : EvS w m c f E) (nm : List UInt8) (e : Ev) {v' : Value} {w1 w2 : World} {c' : Nat} (ho : Own w1 71 5 v' ((E nm).length + 1) (evs (E nm) ++ evC e)) (hf : Fr (AtO (slOf f nm).ownBlock) w w1)
    (hl : v'.ownBlock = (slOf f nm).ownBlock ∨ v'.ownBlock = some w.heap.size) (ht : TabS Tryz.prog 9 w2 m c' (upd f nm v')) (hf2 : Fr (At1 m) w1 w2) :
    EvS w2 m c' (upd f nm v') (fun j => if j = nm then E j ++ [e] else E j) ∧ Fr (evB m f) w w2 ∧ ∀ i, evB m (upd f nm v') i → evB m f i ∨ w.heap.size ≤ i := by
  have hm := h.tab.lt
  have hv' : ∀ k, v'.ownBlock = some k → (evB m f k ∧ (slOf f nm).ownBlock = some k ∧ k ≠ m) ∨ k = w.heap.size := fun k hk => by
    rcases hl with e1 | e1
    · rw [e1] at hk
      exact .inl ⟨(h.slB nm k hk).1, hk, (h.slB nm k hk).2⟩
    · rw [e1] at hk
      injection hk with hk
      exact .inr hk.symm
  have hvm : ∀ k, v'.ownBlock = some k → k ≠ m := fun k hk => by
    rcases hv' k hk with h1 | h1
    · exact h1.2.2
    · omega
  refine ⟨⟨ht, fun j v hv => ?_, fun j hj => ?_, fun a b va vb ha hb hne k hk => ?_⟩, ?_, fun i hi => ?_⟩
  · unfold upd at hv
    by_cases e1 : j = nm
    · rw [if_pos e1] at hv
      injection hv with hv
      subst hv
      subst e1
      simp only [if_true]
      rw [evs_append, evs_one, List.length_append]
      exact ho.fr hf2 (fun k hk => hvm k hk)
    · rw [if_neg e1] at hv
      simp only [if_neg e1]
      refine ((h.row j v hv).fr hf (fun k hk e2 => ?_)).fr hf2 (fun k hk e2 => ?_)
      · have e2 : (slOf f nm).ownBlock = some k := e2
        unfold slOf at e2
        cases hn : f nm with
        | none => rw [hn] at e2; simp [Value.ownBlock] at e2
        | some u =>
          rw [hn] at e2
          exact h.apart nm j u v hn hv (fun e => e1 e.symm) k e2 hk
      · have e2 : k = m := e2
        obtain ⟨cur, hc⟩ := (h.row j v hv).blk k hk
        exact h.tab.ne_ hc e2.symm
  · unfold upd at hj
    by_cases e1 : j = nm
    · rw [if_pos e1] at hj
      cases hj
    · rw [if_neg e1] at hj
      simp only [if_neg e1]
      exact h.no j hj
  · unfold upd at ha hb
    have other : ∀ j v, f j = some v → j ≠ nm → ∀ k, v.ownBlock = some k → v'.ownBlock ≠ some k := fun j v hv hj k hk e2 => by
      rcases hv' k e2 with ⟨_, h2, _⟩ | h1
      · unfold slOf at h2
        cases hn : f nm with
        | none => rw [hn] at h2; simp [Value.ownBlock] at h2
        | some u =>
          rw [hn] at h2
          exact h.apart nm j u v hn hv (fun e => hj e.symm) k h2 hk
      · have := (h.row j v hv).lt k hk
        omega
    by_cases e1 : a = nm
    · rw [if_pos e1] at ha
      injection ha with ha
      subst ha
      have e2 : b ≠ nm := fun e => hne (e1.trans e.symm)
      rw [if_neg e2] at hb
      exact fun hk2 => other b vb hb e2 k hk2 hk
    · rw [if_neg e1] at ha
      by_cases e2 : b = nm
      · rw [if_pos e2] at hb
        injection hb with hb
        subst hb
        exact other a va ha e1 k hk
      · rw [if_neg e2] at hb
        exact h.apart a b va vb ha hb hne k hk
  · refine (hf.mono fun k hk h1 => ?_).trans' hf2 fun i hi hlt => .inl hi
    exact (h.slB nm k h1).1
  · rcases hi with e1 | ⟨j, v, hv, hk⟩
    · exact .inl (.inl e1)
    · unfold upd at hv
      by_cases e1 : j = nm
      · rw [if_pos e1] at hv
        injection hv with hv
        subst hv
        rcases hv' i hk with h1 | h1
        · exact .inl h1.1
        · exact .inr (by omega)
      · rw [if_neg e1] at hv
        exact .inl (.inr ⟨j, v, hv, hk⟩)
theorem EvS.congr {E' : List UInt8 → List Ev} (h : EvS w m c f E) (he : ∀ nm, E nm = E' nm) : EvS w m c f E' := by
  have : E = E' := funext he
  rw [← this]
  exact h
end

/-! ### a desk -/
/-- a reader: its account, how many it has taken -/
abbrev Rdr := ByteArray × Nat
def rdV (r : Rdr) : Value := .agg #[.string r.1, .int .i64 (r.2 : Int)]
def rdT (g : List UInt8 → Option Rdr) : List UInt8 → Option Value := fun nm => (g nm).map rdV
structure Dp where
  p : Nat
  q : Pl
  m : Nat
  r : Nat
structure DkS (w : World) (d : Dp) (f : List UInt8 → Option Value) (N : Nat) (b : Bk) (E : List UInt8 → List Ev) (k : Nat) (g : List UInt8 → Option Rdr) : Prop where
  blk : Blk w d.p 75 #[.pointer (some ⟨d.q.p, 0, none⟩), .map (some d.m), .map (some d.r)]
  bk : BkS w d.q b
  ev : ∃ c, c ≤ N ∧ EvS w d.m c f E
  rd : TabS Tryz.prog 9 w d.r k (rdT g)
  mr : d.r ≠ d.m
  qm : ¬ d.q.all d.m
  qr : ¬ d.q.all d.r
  tk : ∀ nm r, g nm = some r → r.1.size ≤ maxLen ∧ r.2 ≤ (E r.1.data.toList).length
/-- all its blocks -/
def Dp.all (d : Dp) (f : List UInt8 → Option Value) (i : Nat) : Prop := i = d.p ∨ d.q.all i ∨ evB d.m f i ∨ i = d.r
/-- what Do writes -/
def Dp.wr (d : Dp) (f : List UInt8 → Option Value) (i : Nat) : Prop := d.q.wr i ∨ evB d.m f i
section
variable {w w' : World} {d : Dp} {f : List UInt8 → Option Value} {N : Nat} {b : Bk} {E : List UInt8 → List Ev} {k : Nat} {g : List UInt8 → Option Rdr}
theorem Dp.wr_all {i : Nat} (h : d.wr f i) : d.all f i := by
  rcases h with h | h
  · exact .inr (.inl (Pl.wr_all h))
  · exact .inr (.inr (.inl h))
theorem DkS.fr {F : Nat → Prop} (h : DkS w d f N b E k g) (hf : Fr F w w') (hn : ∀ i, d.all f i → ¬ F i) : DkS w' d f N b E k g := by
  obtain ⟨c, hc, he⟩ := h.ev
  exact ⟨h.blk.fr hf (hn _ (.inl rfl)), h.bk.fr hf (fun i hi => hn i (.inr (.inl hi))), ⟨c, hc, he.fr hf (fun i hi => hn i (.inr (.inr (.inl hi))))⟩, h.rd.fr hf (hn _ (.inr (.inr (.inr rfl)))), h.mr, h.qm, h.qr, h.tk⟩
theorem DkS.no (h : DkS w d f N b E k g) (hf : Fr No w w') : DkS w' d f N b E k g := h.fr hf (fun _ _ h => h)
theorem DkS.lt (h : DkS w d f N b E k g) : ∀ i, d.all f i → i < w.heap.size := fun i hi => by
  obtain ⟨c, hc, he⟩ := h.ev
  rcases hi with rfl | hi | hi | rfl
  · exact h.blk.lt
  · exact h.bk.lt i hi
  · exact he.lt i hi
  · exact h.rd.lt
/-- a book's block is no desk's -/
theorem DkS.qp (h : DkS w d f N b E k g) : ¬ d.q.all d.p := fun hi => by
  rcases hi with e | e | e | e | e
  · exact Blk.ne_ h.blk h.bk.blk (by decide) e
  · exact Blk.ne_ h.blk h.bk.ch.1 (by decide) e
  · exact h.bk.ch.2.ne_ h.blk e.symm
  · exact Blk.ne_ h.blk h.bk.hd.1 (by decide) e
  · exact h.bk.hd.2.ne_ h.blk e.symm
theorem DkS.qe (h : DkS w d f N b E k g) : ∀ i, d.q.all i → ¬ evB d.m f i := fun i hi he => by
  obtain ⟨c, hc, hv⟩ := h.ev
  rcases he with e | ⟨nm, v, hx, hk⟩
  · exact h.qm (e ▸ hi)
  · obtain ⟨cur, hb⟩ := (hv.row nm v hx).blk i hk
    rcases hi with e | e | e | e | e
    · exact Blk.ne_ hb h.bk.blk (by decide) e
    · exact Blk.ne_ hb h.bk.ch.1 (by decide) e
    · exact h.bk.ch.2.ne_ hb e.symm
    · exact Blk.ne_ hb h.bk.hd.1 (by decide) e
    · exact h.bk.hd.2.ne_ hb e.symm
/-- what is written of the book is not what else the desk has -/
theorem DkS.wr_p (h : DkS w d f N b E k g) : ¬ d.wr f d.p := fun e => by
  obtain ⟨c, hc, hv⟩ := h.ev
  rcases e with e | e
  · exact h.qp (Pl.wr_all e)
  · exact hv.far h.blk (by decide) e
theorem DkS.wr_r (h : DkS w d f N b E k g) : ¬ d.wr f d.r := fun e => by
  obtain ⟨c, hc, hv⟩ := h.ev
  rcases e with e | e
  · exact h.qr (Pl.wr_all e)
  · exact hv.farT h.rd h.mr e
/-- only the map of readers has changed -/
theorem DkS.read (h : DkS w d f N b E k g) (hf : Fr (At1 d.r) w w') {k' : Nat} {g' : List UInt8 → Option Rdr} (ht : TabS Tryz.prog 9 w' d.r k' (rdT g')) (htk : ∀ nm r, g' nm = some r → r.1.size ≤ maxLen ∧ r.2 ≤ (E r.1.data.toList).length) : DkS w' d f N b E k' g' := by
  obtain ⟨c, hc, hv⟩ := h.ev
  exact ⟨h.blk.fr hf (fun e => h.rd.ne_ h.blk (show d.p = d.r from e).symm), h.bk.fr hf (fun i hi e => h.qr ((show i = d.r from e) ▸ hi)), ⟨c, hc, hv.fr hf (fun i hi e => hv.farT h.rd h.mr ((show i = d.r from e) ▸ hi))⟩, ht, h.mr, h.qm, h.qr, htk⟩
theorem rdT_upd (g : List UInt8 → Option Rdr) (nm : List UInt8) (r : Rdr) : upd (rdT g) nm (rdV r) = rdT (fun j => if j = nm then some r else g j) := by
  funext j
  unfold upd rdT
  by_cases e : j = nm
  · simp only [if_pos e]; rfl
  · simp only [if_neg e]
theorem rdT_none {nm : List UInt8} (h : g nm = none) : rdT g nm = none := by unfold rdT; rw [h]; rfl
theorem rdT_some {nm : List UInt8} {r : Rdr} (h : g nm = some r) : rdT g nm = some (.agg #[.string r.1, .int .i64 (r.2 : Int)]) := by unfold rdT; rw [h]; rfl
end
theorem zeroE (w : World) : (zeroValue 44).run Tryz.prog w = .ok (.slice none 0 0) w := by kernel_rfl
theorem zeroR (w : World) : (zeroValue 84).run Tryz.prog w = .ok (.agg #[.string ByteArray.empty, .int .i64 0]) w := by kernel_rfl
theorem EvS.look {w : World} {m c : Nat} {f : List UInt8 → Option Value} {E : List UInt8 → List Ev} (h : EvS w m c f E) (s : ByteArray) (hs : s.size ≤ maxLen) :
    (Instr.lookup 72 (.map (some m)) (.string s) false).run Tryz.prog w = .ok (slOf f s.data.toList) w := h.tab.look Tryz.underlying9 Tryz.underlying72 (zeroE w) s hs
end Go.Proofs.YtjbeaoabhhaiiaaGreat

namespace Go.Proofs.YtjbeaoabhhaiiaaGreat
open Go.RowKit Go.My Go.Maps
set_option linter.unusedSimpArgs false
set_option linter.unusedVariables false
attribute [local go_sem ↓] Go.wp_at_zero Go.wp_at_succ

def noEv : List UInt8 → List Ev := fun _ => []
def noRd : List UInt8 → Option Rdr := fun _ => none
def noF : List UInt8 → Option Value := fun _ => none
set_option maxRecDepth 100000 in
set_option maxHeartbeats 1000000 in
theorem dnew_any (w : World) : Calls Tryz.prog 5 #[] w fun e w' => ∃ d : Dp, e = .returned (.pointer (some ⟨d.p, 0, none⟩)) ∧ DkS w' d noF 0 bk0 noEv 0 noRd ∧ Fr No w w' ∧ ∀ i, d.all noF i → w.heap.size ≤ i := by
  have hmm := @run_makeMap Tryz.prog
  go_enter Tryz.func5, Tryz.ntmps5
  go_wp2_with fail
  refine (newB_any _).mono ?_
  rintro e w1 ⟨q, rfl, hb1, hf1, hq⟩
  have HB1 := Lib.hid hb1
  have HF1 := Lib.hid hf1
  have HQ := Lib.hid hq
  clear hb1 hf1 hq
  go_wp2
  go_ret
  have t1 : TabS Tryz.prog 9 (w1.alloc (.map #[] 0)) w1.heap.size 0 noF := TabS.made w1
  have t2 : TabS Tryz.prog 9 ((w1.alloc (.map #[] 0)).alloc (.map #[] 0)) (w1.heap.size + 1) 0 noF := by
    have := TabS.made (P := Tryz.prog) (kt := 9) (w1.alloc (.map #[] 0))
    rw [World.size_alloc] at this
    exact this
  have hbk := Blk.new ((w1.alloc (.map #[] 0)).alloc (.map #[] 0)) 75 #[.pointer (some ⟨q.p, 0, none⟩), .map (some w1.heap.size), .map (some (w1.heap.size + 1))]
  rw [World.size_alloc, World.size_alloc] at hbk
  have hF : Fr No w1 (((w1.alloc (.map #[] 0)).alloc (.map #[] 0)).alloc (.cells #[.pointer (some ⟨q.p, 0, none⟩), .map (some w1.heap.size), .map (some (w1.heap.size + 1))] 75)) := (((Fr.refl _ _).alloc _).alloc _).alloc _
  have hlt := HB1.out.lt
  have hs := HF1.out.size
  refine ⟨⟨w1.heap.size + 1 + 1, q, w1.heap.size, w1.heap.size + 1⟩, by simp, ⟨hbk, HB1.out.no hF, ⟨0, Nat.le_refl _, ?_, (fun nm v h => by cases h), (fun _ _ => rfl), (fun a b va vb h => by cases h)⟩, ?_, by simp, (fun h => by have := hlt _ h; simp at this), (fun h => by have := hlt _ h; simp at this; omega), (fun nm r h => by cases h)⟩, HF1.out.trans hF, fun i hi => ?_⟩
  · exact (t1.fr ((Fr.refl No _).alloc _) (fun h => h)).fr ((Fr.refl No _).alloc _) (fun h => h)
  · exact t2.fr ((Fr.refl No _).alloc _) (fun h => h)
  · rcases hi with e | e | (e | ⟨nm, v, hv, _⟩) | e
    · simp only at e; omega
    · exact HQ.out i e
    · simp only at e; omega
    · cases hv
    · simp only at e; omega

/-- which error a reader's name has, and what it has -/
def findE (g : List UInt8 → Option Rdr) (nm : List UInt8) : Int := if (g nm).isSome then 0 else 6
set_option maxRecDepth 100000 in
set_option maxHeartbeats 1000000 in
theorem find_none {d : Dp} {f : List UInt8 → Option Value} {N : Nat} {b : Bk} {E : List UInt8 → List Ev} {k : Nat} {g : List UInt8 → Option Rdr} (s : ByteArray) (w : World) (h : DkS w d f N b E k g) (hs : s.size ≤ maxLen) (hg : g s.data.toList = none) :
    Calls Tryz.prog 31 #[.pointer (some ⟨d.p, 0, none⟩), .string s] w fun e w' => e = .returned (.tuple #[.agg #[.string ⟨#[]⟩, .int .i64 0], .int .i64 6]) ∧ Fr No w w' := by
  have x2 := h.blk.alloc (.cells #[.string ⟨#[]⟩, .int .i64 0] 84)
  have x3 := x2.cell 2
  have hl := fun (W : World) (hW : Fr No w W) => ((h.rd.fr (w' := W) hW (fun h => h)).look_ok Tryz.underlying9 Tryz.underlying73 (zeroR W) s hs)
  rw [rdT_none hg] at hl
  simp only [Option.getD_none, Option.isSome_none] at hl
  have hl1 := hl _ ((Fr.refl No w).alloc (.cells #[.string ⟨#[]⟩, .int .i64 0] 84))
  have hlt := h.blk.lt
  simp only [List.getElem?_toArray, List.getElem?_cons_zero, List.getElem?_cons_succ] at x3
  clear x2 hl h hg
  go_enter Tryz.func31, Tryz.ntmps31
  go_wp2
  have hz := (Blk.new w 84 #[.string ⟨#[]⟩, .int .i64 0]).alloc (.cells #[.string ByteArray.empty, .int .i64 0] 84)
  have z0 := hz.cell 0
  have z1 := hz.cell 1
  simp only [List.getElem?_toArray, List.getElem?_cons_zero, List.getElem?_cons_succ] at z0 z1
  refine bodyPost_ret (v := .tuple #[.agg #[.string ⟨#[]⟩, .int .i64 0], .int .i64 6]) (by simp [results, Tryz.results31, go_sem, z0, z1]) rfl ?_
  exact ⟨rfl, ((Fr.refl _ _).alloc _).alloc _⟩
set_option maxRecDepth 100000 in
set_option maxHeartbeats 1000000 in
theorem find_some {d : Dp} {f : List UInt8 → Option Value} {N : Nat} {b : Bk} {E : List UInt8 → List Ev} {k : Nat} {g : List UInt8 → Option Rdr} (s : ByteArray) (w : World) (h : DkS w d f N b E k g) (hs : s.size ≤ maxLen) {a : ByteArray} {t : Nat} (hg : g s.data.toList = some (a, t)) :
    Calls Tryz.prog 31 #[.pointer (some ⟨d.p, 0, none⟩), .string s] w fun e w' => e = .returned (.tuple #[.agg #[.string a, .int .i64 (t : Int)], .int .i64 0]) ∧ Fr No w w' := by
  have x2 := h.blk.alloc (.cells #[.string ⟨#[]⟩, .int .i64 0] 84)
  have x3 := x2.cell 2
  have hl := fun (W : World) (hW : Fr No w W) => ((h.rd.fr (w' := W) hW (fun h => h)).look_ok Tryz.underlying9 Tryz.underlying73 (zeroR W) s hs)
  rw [rdT_some hg] at hl
  simp only [Option.getD_some, Option.isSome_some] at hl
  have hl1 := hl _ ((Fr.refl No w).alloc (.cells #[.string ⟨#[]⟩, .int .i64 0] 84))
  have hlt := h.blk.lt
  simp only [List.getElem?_toArray, List.getElem?_cons_zero, List.getElem?_cons_succ] at x3
  have hz := (Blk.new w 84 #[.string ⟨#[]⟩, .int .i64 0]).alloc (.cells #[.string a, .int .i64 (t : Int)] 84)
  have hy := Blk.new (w.alloc (.cells #[.string ⟨#[]⟩, .int .i64 0] 84)) 84 #[.string a, .int .i64 (t : Int)]
  rw [World.size_alloc] at hy
  have z0 := hz.cell 0
  have z1 := hz.cell 1
  have f0 := hz.frozen 0
  have f1 := hz.frozen 1
  have y0 := hy.cell 0
  have y1 := hy.cell 1
  simp only [List.getElem?_toArray, List.getElem?_cons_zero, List.getElem?_cons_succ] at z0 z1 y0 y1
  have HZ := Lib.hid hz
  clear x2 hl h hg hz hy
  go_enter Tryz.func31, Tryz.ntmps31
  go_wp2
  have hx := (HZ.out.set_ 0 (.string a)).set_ 1 (.int .i64 (t : Int))
  have u0 := hx.cell 0
  have u1 := hx.cell 1
  simp at u0 u1
  refine bodyPost_ret (v := .tuple #[.agg #[.string a, .int .i64 (t : Int)], .int .i64 0]) (by simp [results, Tryz.results31, go_sem, u0, u1]) rfl ?_
  exact ⟨rfl, ((Fr.refl No w).alloc _).alloc _⟩
theorem find_nil (s : ByteArray) (w : World) : Calls Tryz.prog 31 #[.pointer none, .string s] w fun e w' => e = .returned (.tuple #[.agg #[.string ⟨#[]⟩, .int .i64 0], .int .i64 1]) ∧ Fr No w w' := by
  have hz := Blk.new w 84 #[.string ⟨#[]⟩, .int .i64 0]
  have z0 := hz.cell 0
  have z1 := hz.cell 1
  simp only [List.getElem?_toArray, List.getElem?_cons_zero, List.getElem?_cons_succ] at z0 z1
  clear hz
  go_enter Tryz.func31, Tryz.ntmps31
  go_wp2
  refine bodyPost_ret (v := .tuple #[.agg #[.string ⟨#[]⟩, .int .i64 0], .int .i64 1]) (by simp [results, Tryz.results31, go_sem, z0, z1]) rfl ?_
  exact ⟨rfl, (Fr.refl _ _).alloc _⟩

/-! ### copies of events -/
theorem cloneE_any (F : Nat → Prop) (A : Option Addr) (c : Nat) (l : List Ev) (w : World) (hr : Rd w F 5 A l.length (evs l)) (hl : l.length ≤ 1000000) :
    Calls Tryz.prog 32 #[.slice A l.length c] w (RetOwn w 71 5 none l.length (evs l)) := by
  have hnil := fun W => Lib.run_eql_slice_nil (P := Tryz.prog) W 44 71 A l.length c 0 0 Tryz.underlying44
  rcases A with _ | ad
  · have hl0 : l.length = 0 := by
      rcases Nat.eq_zero_or_pos l.length with h0 | h0
      · exact h0
      · obtain ⟨ad, h, _⟩ := hr.2 h0
        cases h
    have : l = [] := List.eq_nil_of_length_eq_zero hl0
    subst this
    simp only [Option.isNone_none, List.length_nil] at hnil
    clear hr
    go_enter Tryz.func32, Tryz.ntmps32
    go_wp2
    go_ret
    exact ⟨_, rfl, Own.nil _ _ _, Fr.refl _ _, .inl rfl⟩
  · simp only [Option.isNone_some] at hnil
    have hmt : Own (w.alloc (.cells #[] 71)) 71 5 (.slice (some ⟨w.heap.size, 0, none⟩) 0 0) 0 [] := ⟨by simp, .inr ⟨w.heap.size, 0, #[], rfl, heap_alloc_new w _, by omega, by simp only [maxLen]; omega, by simp, by simp⟩⟩
    have hsrc : Src Tryz.prog (w.alloc (.cells #[] 71)) 5 44 (.slice (some ad) l.length c) l.length (evs l) :=
      Src.of_rd (hr.fr (S := No) (by omega) ((Fr.refl _ _).alloc _) (fun _ _ _ h => h)) (evs_ones l) Tryz.underlying44
    have HM := Lib.hid hmt
    have HR := Lib.hid hsrc
    have HS := Lib.hid hl
    clear hr hmt hsrc hl
    go_enter Tryz.func32, Tryz.ntmps32
    go_wp2_with (at_builtin; refine wpList_app _ rfl (.tmp 5) (.tmp 6) 44 44 rfl elE HM.out rfl HR.out rfl (by simp only [maxLen]; have := HS.out; omega) (by have := HS.out; omega) ?_; intro v1 w1 ho1 hf1 hn1)
    go_ret
    rw [Nat.zero_add, List.nil_append] at ho1
    refine ⟨v1, rfl, ho1, ?_, ?_⟩
    · exact (((Fr.refl No w).alloc (.cells #[] 71)).trans' hf1 (fun i hi hlt => by
        simp only [AtO, Value.ownBlock, Option.some.injEq] at hi
        omega)).mono fun _ _ h => False.elim h
    · rcases hn1 with h1 | h1
      · rw [h1]
        exact .inr ⟨_, rfl, Nat.le_refl _⟩
      · rw [h1, World.size_alloc]
        exact .inr ⟨_, rfl, by omega⟩
end Go.Proofs.YtjbeaoabhhaiiaaGreat

namespace Go.Proofs.YtjbeaoabhhaiiaaGreat
open Go.RowKit Go.My Go.Maps
set_option linter.unusedSimpArgs false
set_option linter.unusedVariables false
attribute [local go_sem ↓] Go.wp_at_zero Go.wp_at_succ

section
variable {d : Dp} {f : List UInt8 → Option Value} {N : Nat} {b : Bk} {E : List UInt8 → List Ev} {k : Nat} {g : List UInt8 → Option Rdr}
theorem dof_any (s : ByteArray) (w : World) (h : DkS w d f N b E k g) (hs : s.size ≤ maxLen) (hl : (E s.data.toList).length ≤ 1000000) :
    Calls Tryz.prog 18 #[.pointer (some ⟨d.p, 0, none⟩), .string s] w (RetOwn w 71 5 none (E s.data.toList).length (evs (E s.data.toList))) := by
  obtain ⟨c, hc, hv⟩ := h.ev
  have hk := hv.look s hs
  have hsl := hv.sl s.data.toList
  obtain ⟨A, c1, hA, -, -⟩ := hsl.form
  rw [hA] at hk hsl
  have HC := Lib.hid (cloneE_any _ A c1 _ w hsl.rd hl)
  have x1 := h.blk.cell 1
  simp only [List.getElem?_toArray, List.getElem?_cons_zero, List.getElem?_cons_succ] at x1
  clear h hv hsl hl hA hc
  go_enter Tryz.func18, Tryz.ntmps18
  go_wp2_with fail
  refine HC.out.mono ?_
  rintro e w1 ⟨v, rfl, ho, hf, hn⟩
  have HO := Lib.hid ho
  have HF := Lib.hid hf
  have HN := Lib.hid hn
  clear ho hf hn HC
  go_wp2
  go_ret
  exact ⟨v, rfl, HO.out, HF.out, HN.out⟩
theorem dof_nil (s : ByteArray) (w : World) : Calls Tryz.prog 18 #[.pointer none, .string s] w fun e w' => e = .returned (.slice none 0 0) ∧ w' = w := by
  go_enter Tryz.func18, Tryz.ntmps18
  go_wp2
  go_ret
  exact ⟨rfl, rfl⟩
theorem dbook_any (w : World) (h : DkS w d f N b E k g) : Calls Tryz.prog 23 #[.pointer (some ⟨d.p, 0, none⟩)] w (NewB w b) := by
  have HC := Lib.hid (bcopy_any d.q b w h.bk)
  have x0 := h.blk.cell 0
  simp only [List.getElem?_toArray, List.getElem?_cons_zero, List.getElem?_cons_succ] at x0
  clear h
  go_enter Tryz.func23, Tryz.ntmps23
  go_wp2_with fail
  refine HC.out.mono ?_
  rintro e w1 ⟨q, rfl, hb⟩
  go_wp2
  go_ret
  exact ⟨q, rfl, hb⟩
theorem dbook_nil (w : World) : Calls Tryz.prog 23 #[.pointer none] w fun e w' => e = .returned (.pointer none) ∧ w' = w := by
  go_enter Tryz.func23, Tryz.ntmps23
  go_wp2
  go_ret
  exact ⟨rfl, rfl⟩
theorem at_none (s : ByteArray) (w : World) (h : DkS w d f N b E k g) (hs : s.size ≤ maxLen) (hg : g s.data.toList = none) :
    Calls Tryz.prog 16 #[.pointer (some ⟨d.p, 0, none⟩), .string s] w fun e w' => e = .returned (.tuple #[.int .i64 0, .int .i64 6]) ∧ Fr No w w' := by
  have HX := Lib.hid (find_none s w h hs hg)
  clear h hg
  go_enter Tryz.func16, Tryz.ntmps16
  go_wp2_with fail
  refine HX.out.mono ?_
  rintro e w1 ⟨rfl, hf⟩
  have HF := Lib.hid hf
  clear hf HX
  go_wp2
  go_ret2
  exact ⟨rfl, HF.out.alloc _⟩
theorem at_some (s : ByteArray) (w : World) (h : DkS w d f N b E k g) (hs : s.size ≤ maxLen) {a : ByteArray} {t : Nat} (hg : g s.data.toList = some (a, t)) :
    Calls Tryz.prog 16 #[.pointer (some ⟨d.p, 0, none⟩), .string s] w fun e w' => e = .returned (.tuple #[.int .i64 (t : Int), .int .i64 0]) ∧ Fr No w w' := by
  have HX := Lib.hid (find_some s w h hs hg)
  clear h hg
  go_enter Tryz.func16, Tryz.ntmps16
  go_wp2_with fail
  refine HX.out.mono ?_
  rintro e w1 ⟨rfl, hf⟩
  have HF := Lib.hid hf
  clear hf HX
  go_wp2
  go_ret2
  exact ⟨rfl, HF.out.alloc _⟩
theorem poll_none (s : ByteArray) (m : Int) (w : World) (h : DkS w d f N b E k g) (hs : s.size ≤ maxLen) (hg : g s.data.toList = none) :
    Calls Tryz.prog 9 #[.pointer (some ⟨d.p, 0, none⟩), .string s, .int .i64 m] w fun e w' => e = .returned (.tuple #[.slice none 0 0, .int .i64 6]) ∧ Fr No w w' := by
  have HX := Lib.hid (find_none s w h hs hg)
  clear h hg
  go_enter Tryz.func9, Tryz.ntmps9
  go_wp2_with fail
  refine HX.out.mono ?_
  rintro e w1 ⟨rfl, hf⟩
  have HF := Lib.hid hf
  clear hf HX
  go_wp2
  go_ret2
  exact ⟨rfl, HF.out.alloc _⟩
theorem poll_some (s : ByteArray) (m : Int) (w : World) (h : DkS w d f N b E k g) (hs : s.size ≤ maxLen) (hm : In64 m) {a : ByteArray} {t : Nat} (hg : g s.data.toList = some (a, t)) (hl : (E a.data.toList).length ≤ 1000000) :
    Calls Tryz.prog 9 #[.pointer (some ⟨d.p, 0, none⟩), .string s, .int .i64 m] w fun e w' => ∃ v, e = .returned (.tuple #[v, .int .i64 0]) ∧ Own w' 71 5 v (((E a.data.toList).drop t).take m.toNat).length (evs (((E a.data.toList).drop t).take m.toNat)) ∧ Fr No w w' ∧ ∀ i, v.ownBlock = some i → w.heap.size ≤ i := by
  have HX := Lib.hid (find_some s w h hs hg)
  obtain ⟨hsa, hta⟩ := h.tk _ _ hg
  simp only at hsa hta
  obtain ⟨c, hc, hv⟩ := h.ev
  have HV := Lib.hid hv
  have HB := Lib.hid h.blk
  have HL := Lib.hid hl
  clear h hg hv hl
  generalize hM : (E a.data.toList).drop t = M
  generalize hT : M.take m.toNat = T
  go_enter Tryz.func9, Tryz.ntmps9
  go_wp2_with fail
  refine HX.out.mono ?_
  rintro e w1 ⟨rfl, hf⟩
  have hsl := (HV.out.noF hf).sl a.data.toList
  obtain ⟨A, c1, hA, hc1, hc2⟩ := hsl.form
  have hlk := fun W (hW : Fr No w W) => by
    have h1 := (HV.out.noF hW).look a hsa
    rw [hA] at h1
    exact h1
  rw [hA] at hsl
  have hk1 := fun n => hlk _ ((hf.alloc (.cells #[.string a, .int .i64 (t : Int)] 84)).drewN n)
  have hb1 := (HB.out.fr hf (fun h => h)).alloc (.cells #[.string a, .int .i64 (t : Int)] 84)
  have b1 := hb1.cell 1
  have hz := Blk.new w1 84 #[.string a, .int .i64 (t : Int)]
  have z0 := hz.cell 0
  have z1 := hz.cell 1
  have HF := Lib.hid hf
  simp only [List.getElem?_toArray, List.getElem?_cons_zero, List.getElem?_cons_succ] at b1 z0 z1
  generalize (E a.data.toList) = L at *
  clear hb1 hz hf hlk
  go_upto_region 4 with (fail)
  have HF2 : Hid (Fr No w1 (w1.alloc (.cells #[.string a, .int .i64 (t : Int)] 84))) := (Fr.refl _ _).alloc _
  have HF3 : Hid (Fr No w (w1.alloc (.cells #[.string a, .int .i64 (t : Int)] 84))) := HF.out.alloc _
  generalize w1.alloc (.cells #[.string a, .int .i64 (t : Int)] 84) = w2 at *
  go_quiet (fail)
  have hcut := ((hsl.rd.fr (by decide : 0 < 5) ((HF2.out).drewN nq) (fun _ _ _ h => h)).cut (k := t) (cap := c1) hta hc1)
  rw [evs_drop] at hcut
  rw [hM] at hcut
  have hMl : M.length ≤ 1000000 := by rw [← hM, List.length_drop]; have := HL.out; omega
  have e1 : L.length - t = M.length := by rw [← hM, List.length_drop]
  rw [e1] at hcut ⊢
  generalize (if c1 = t then A else Option.map (fun x => x.add (t * 5)) A) = A2 at *
  have hc3 : M.length ≤ c1 - t := by rw [← hM, List.length_drop]; omega
  have hc4 : c1 - t ≤ maxLen := by omega
  generalize c1 - t = c2 at *
  have hTl : T.length ≤ M.length := by rw [← hT, List.length_take]; omega
  have hTT : M.take T.length = T := by rw [← hT, List.length_take, List.take_eq_take_iff]; simp
  have HCUT := hcut.take (k := T.length) hTl
  rw [evs_take, hTT] at HCUT
  have HCL := Lib.hid (fun W (hW : Fr No (w2.drewN nq) W) => cloneE_any _ A2 c2 T W (HCUT.fr (by decide : 0 < 5) hW (fun _ _ _ h => h)) (by omega))
  have HFF : Hid (Fr No w (w2.drewN nq)) := HF3.out.drewN nq
  have hTm : (max 0 (min m (M.length : Int))).toNat = T.length := by
    rw [← hT, List.length_take]
    omega
  clear hcut e1 hta hsl hk1 b1 z0 z1 hc1 hc2 HF2 HF3 HCUT hTT hT hM
  generalize w2.drewN nq = w3 at *
  have hc5 : c2 ≤ 9223372036854775807 := by unfold maxLen at hc4; omega
  unfold In64 at hm
  have HTM := Lib.hid hTm
  clear hTm
  go_wp2_with fail
  rw [HTM.out]
  refine (HCL.out _ (Fr.refl _ _)).mono ?_
  rintro e w4 ⟨v, rfl, ho, hf4, hn⟩
  have HO := Lib.hid ho
  have HF4 : Hid (Fr No w w4) := HFF.out.trans (fr_at_none hf4)
  have HN : Hid (∀ i, v.ownBlock = some i → w.heap.size ≤ i) := fun i hi => by
    have h1 := newer_none hn i hi
    have h2 := HFF.out.size
    omega
  clear ho hf4 hn HCL HTM
  go_wp2
  go_ret2
  exact ⟨v, rfl, HO.out, HF4.out, HN.out⟩
end
end Go.Proofs.YtjbeaoabhhaiiaaGreat

namespace Go.Proofs.YtjbeaoabhhaiiaaGreat
open Go.RowKit Go.My Go.Maps
set_option linter.unusedSimpArgs false
set_option linter.unusedVariables false
attribute [local go_sem ↓] Go.wp_at_zero Go.wp_at_succ

/-- what Read answers, and the readers then -/
def readE (g : List UInt8 → Option Rdr) (k : Nat) (nm ac : List UInt8) : Int := if nameB nm = false ∨ nameB ac = false then 1 else if (g nm).isSome then 7 else if 10 ≤ k then 5 else 0
def setG (g : List UInt8 → Option Rdr) (nm : List UInt8) (r : Rdr) : List UInt8 → Option Rdr := fun j => if j = nm then some r else g j
def readG (g : List UInt8 → Option Rdr) (k : Nat) (nm : List UInt8) (a : ByteArray) : List UInt8 → Option Rdr := if readE g k nm a.data.toList = 0 then setG g nm (a, 0) else g
def readK (g : List UInt8 → Option Rdr) (k : Nat) (nm : List UInt8) (a : ByteArray) : Nat := if readE g k nm a.data.toList = 0 then k + 1 else k
theorem eqlMap (m : Nat) (w : World) : (binOp .eql 73 (.map (some m)) (.map none)).run Tryz.prog w = .ok (.bool false) w := by kernel_rfl
section
variable {d : Dp} {f : List UInt8 → Option Value} {N : Nat} {b : Bk} {E : List UInt8 → List Ev} {k : Nat} {g : List UInt8 → Option Rdr}
theorem read_none {g : List UInt8 → Option Rdr} {k : Nat} {nm : List UInt8} {a : ByteArray} {n : Int} (h : readE g k nm a.data.toList = n) (hn : n ≠ 0) : readG g k nm a = g ∧ readK g k nm a = k := by
  unfold readG readK
  rw [if_neg (by omega), if_neg (by omega)]
  exact ⟨rfl, rfl⟩
set_option maxRecDepth 100000 in
set_option maxHeartbeats 1000000 in
theorem dread_any (s a : ByteArray) (w : World) (h : DkS w d f N b E k g) (hs : s.size ≤ maxLen) (ha : a.size ≤ maxLen) (hk : k ≤ 1000000) :
    Calls Tryz.prog 7 #[.pointer (some ⟨d.p, 0, none⟩), .string s, .string a] w fun e w' => e = .returned (.int .i64 (readE g k s.data.toList a.data.toList)) ∧ DkS w' d f N b E (readK g k s.data.toList a) (readG g k s.data.toList a) ∧ Fr (At1 d.r) w w' := by
  have HN1 := Lib.hid (fun W => name_any s W hs)
  have HN2 := Lib.hid (fun W => name_any a W ha)
  have HD := Lib.hid h
  have HS := Lib.hid hs
  have x2 := h.blk.cell 2
  simp only [List.getElem?_toArray, List.getElem?_cons_zero, List.getElem?_cons_succ] at x2
  by_cases h1 : nameB s.data.toList = false
  · have HE : Hid (readE g k s.data.toList a.data.toList = 1) := by show _ = _; unfold readE; rw [if_pos (.inl h1)]
    obtain ⟨e1, e2⟩ := read_none HE.out (by decide)
    rw [HE.out, e1, e2]
    rw [h1] at HN1
    clear h h1 e1 e2 hs
    go_enter Tryz.func7, Tryz.ntmps7
    go_wp2_with fail
    refine (HN1.out _).mono ?_
    rintro e w1 ⟨rfl, hb1⟩
    have HF := Lib.hid (Fr.of_below hb1 No)
    clear hb1
    go_wp2
    go_ret
    exact ⟨rfl, HD.out.no HF.out, HF.out.mono fun _ _ h => False.elim h⟩
  have h1 : nameB s.data.toList = true := by simpa using h1
  rw [h1] at HN1
  by_cases h2 : nameB a.data.toList = false
  · have HE : Hid (readE g k s.data.toList a.data.toList = 1) := by show _ = _; unfold readE; rw [if_pos (.inr h2)]
    obtain ⟨e1, e2⟩ := read_none HE.out (by decide)
    rw [HE.out, e1, e2]
    rw [h2] at HN2
    clear h h1 h2 e1 e2 hs
    go_enter Tryz.func7, Tryz.ntmps7
    go_wp2_with fail
    refine (HN1.out _).mono ?_
    rintro e w1 ⟨rfl, hb1⟩
    go_wp2_with fail
    refine (HN2.out _).mono ?_
    rintro e w2 ⟨rfl, hb2⟩
    have HF := Lib.hid ((Fr.of_below hb1 No).trans (Fr.of_below hb2 No))
    clear hb1 hb2
    go_wp2
    go_ret
    exact ⟨rfl, HD.out.no HF.out, HF.out.mono fun _ _ h => False.elim h⟩
  have h2 : nameB a.data.toList = true := by simpa using h2
  rw [h2] at HN2
  have hl := fun (W : World) (hW : Fr No w W) => ((h.rd.fr (w' := W) hW (fun h => h)).look_ok Tryz.underlying9 Tryz.underlying73 (zeroR W) s hs)
  by_cases h3 : (g s.data.toList).isSome = true
  · obtain ⟨⟨a0, t0⟩, hg⟩ := Option.isSome_iff_exists.1 h3
    have HE : Hid (readE g k s.data.toList a.data.toList = 7) := by show _ = _; unfold readE; rw [if_neg (by rw [h1, h2]; simp), if_pos h3]
    obtain ⟨e1, e2⟩ := read_none HE.out (by decide)
    rw [HE.out, e1, e2]
    rw [rdT_some hg] at hl
    simp only [Option.getD_some, Option.isSome_some] at hl
    clear h h1 h2 e1 e2 hs h3 hg
    go_enter Tryz.func7, Tryz.ntmps7
    go_wp2_with fail
    refine (HN1.out _).mono ?_
    rintro e w1 ⟨rfl, hb1⟩
    go_wp2_with fail
    refine (HN2.out _).mono ?_
    rintro e w2 ⟨rfl, hb2⟩
    have HF := Lib.hid ((Fr.of_below hb1 No).trans (Fr.of_below hb2 No))
    have x3 : w2.cell? ⟨d.p, 2, none⟩ = some (.map (some d.r)) := HF.out.cell_some x2 (fun h => h)
    have hl2 := hl _ HF.out
    clear hb1 hb2 hl
    go_wp2
    go_ret
    exact ⟨rfl, HD.out.no (HF.out.alloc _), (HF.out.alloc _).mono fun _ _ h => False.elim h⟩
  have hg : g s.data.toList = none := by
    cases hg : g s.data.toList with
    | none => rfl
    | some r => rw [hg] at h3; exact absurd rfl h3
  rw [rdT_none hg] at hl
  simp only [Option.getD_none, Option.isSome_none] at hl
  have hln := fun (W : World) (hW : Fr No w W) (ty : TypeId) => ((h.rd.fr (w' := W) hW (fun h => h)).len Tryz.underlying73 ty)
  by_cases h4 : 10 ≤ k
  · have HE : Hid (readE g k s.data.toList a.data.toList = 5) := by show _ = _; unfold readE; rw [if_neg (by rw [h1, h2]; simp), if_neg h3, if_pos h4]
    obtain ⟨e1, e2⟩ := read_none HE.out (by decide)
    rw [HE.out, e1, e2]
    have hd : decide ((10 : Int) ≤ (k : Int)) = true := decide_eq_true (by omega)
    clear h h1 h2 e1 e2 hs h3 hg
    go_enter Tryz.func7, Tryz.ntmps7
    go_wp2_with fail
    refine (HN1.out _).mono ?_
    rintro e w1 ⟨rfl, hb1⟩
    go_wp2_with fail
    refine (HN2.out _).mono ?_
    rintro e w2 ⟨rfl, hb2⟩
    have HF := Lib.hid ((Fr.of_below hb1 No).trans (Fr.of_below hb2 No))
    have x3 : w2.cell? ⟨d.p, 2, none⟩ = some (.map (some d.r)) := HF.out.cell_some x2 (fun h => h)
    have hl2 := hl _ HF.out
    have hl3 := hln _ (HF.out.alloc (.cells #[.string ByteArray.empty, .int .i64 0] 84))
    have hlt := World.block_lt_of_cell? _ _ x3
    simp only at hlt
    clear hb1 hb2 hl hln
    go_wp2
    go_ret
    exact ⟨rfl, HD.out.no (HF.out.alloc _), (HF.out.alloc _).mono fun _ _ h => False.elim h⟩
  have HE : Hid (readE g k s.data.toList a.data.toList = 0) := by show _ = _; unfold readE; rw [if_neg (by rw [h1, h2]; simp), if_neg h3, if_neg h4]
  have HGK : Hid (readG g k s.data.toList a = setG g s.data.toList (a, 0) ∧ readK g k s.data.toList a = k + 1) := by
    refine ⟨?_, ?_⟩
    · unfold readG; rw [if_pos HE.out]
    · unfold readK; rw [if_pos HE.out]
  rw [HE.out, HGK.out.1, HGK.out.2]
  have hd : decide ((10 : Int) ≤ (k : Int)) = false := decide_eq_false (by omega)
  have hd2 : ¬ ((10 : Int) ≤ (k : Int)) := by omega
  have HTK : Hid (∀ nm r, setG g s.data.toList (a, 0) nm = some r → r.1.size ≤ maxLen ∧ r.2 ≤ (E r.1.data.toList).length) := fun nm r hr => by
    unfold setG at hr
    split at hr
    · injection hr with hr
      subst hr
      exact ⟨ha, Nat.zero_le _⟩
    · exact h.tk nm r hr
  have HCT : Hid (cnt (rdT g) k s.data.toList = k + 1) := by show _ = _; unfold cnt; rw [rdT_none hg]; rfl
  clear h h1 h2 hs h3 hg h4 HE HGK
  go_enter Tryz.func7, Tryz.ntmps7
  go_wp2_with fail
  refine (HN1.out _).mono ?_
  rintro e w1 ⟨rfl, hb1⟩
  go_wp2_with fail
  refine (HN2.out _).mono ?_
  rintro e w2 ⟨rfl, hb2⟩
  have HF := Lib.hid ((Fr.of_below hb1 No).trans (Fr.of_below hb2 No))
  have x3 : w2.cell? ⟨d.p, 2, none⟩ = some (.map (some d.r)) := HF.out.cell_some x2 (fun h => h)
  have hl2 := hl _ HF.out
  have hl3 := hln _ (HF.out.alloc (.cells #[.string ByteArray.empty, .int .i64 0] 84))
  have hlt := World.block_lt_of_cell? _ _ x3
  simp only at hlt
  obtain ⟨w3, hrun, ht3, hf3⟩ := (HD.out.rd.fr (HF.out.alloc (.cells #[.string ByteArray.empty, .int .i64 0] 84)) (fun h => h)).put Tryz.underlying9 Tryz.underlying73 (by unfold maxLen; omega) s HS.out (.agg #[.string a, .int .i64 0])
  rw [HCT.out] at ht3
  have HT3 : Hid (TabS Tryz.prog 9 w3 d.r (k + 1) (rdT (setG g s.data.toList (a, 0)))) := by
    have := rdT_upd g s.data.toList (a, 0)
    show TabS _ _ _ _ _ _
    unfold setG
    rw [← this]
    exact ht3
  have HF3 := Lib.hid hf3
  have heq := eqlMap d.r
  clear hb1 hb2 hl hln ht3 hf3
  go_wp2
  go_ret
  have hfin : Fr (At1 d.r) w w3 := ((HF.out.alloc _).mono fun _ _ h => False.elim h).trans HF3.out
  exact ⟨rfl, (HD.out.no (HF.out.alloc _)).read HF3.out HT3.out HTK.out, hfin⟩
theorem dread_nil (s a : ByteArray) (w : World) : Calls Tryz.prog 7 #[.pointer none, .string s, .string a] w fun e w' => e = .returned (.int .i64 1) ∧ w' = w := by
  go_enter Tryz.func7, Tryz.ntmps7
  go_wp2
  go_ret
  exact ⟨rfl, rfl⟩
/-- so many more, or fewer, where there are so many -/
def moveE (n most : Int) : Int := if n < 0 ∨ most < n then 13 else 0
def tookG (g : List UInt8 → Option Rdr) (nm : List UInt8) (a : ByteArray) (t' : Nat) (e : Int) : List UInt8 → Option Rdr := if e = 0 then setG g nm (a, t') else g
set_option maxRecDepth 100000 in
set_option maxHeartbeats 1000000 in
theorem dmove_bad (s : ByteArray) (n way most : Int) (p : Option Addr) (w : World) (h : n < 0 ∨ most < n) :
    Calls Tryz.prog 33 #[.pointer p, .string s, .int .i64 n, .int .i64 way, .int .i64 most] w fun e w' => e = .returned (.int .i64 13) ∧ w' = w := by
  by_cases h1 : n < 0
  · have hd : decide (n < 0) = true := decide_eq_true h1
    clear h
    go_enter Tryz.func33, Tryz.ntmps33
    go_wp2
    go_ret
    exact ⟨rfl, rfl⟩
  · have hd : decide (n < 0) = false := decide_eq_false h1
    have h2 : most < n := h.resolve_left h1
    have hd2 : decide (most < n) = true := decide_eq_true h2
    clear h
    go_enter Tryz.func33, Tryz.ntmps33
    go_wp2
    go_ret
    exact ⟨rfl, rfl⟩
set_option maxRecDepth 100000 in
set_option maxHeartbeats 1000000 in
theorem dmove_any (s : ByteArray) (n way most : Int) (w : World) (h : DkS w d f N b E k g) (hs : s.size ≤ maxLen) (hk : k ≤ 1000000) {a : ByteArray} {t t' : Nat} (hg : g s.data.toList = some (a, t)) (h0 : 0 ≤ n) (hn : n ≤ most) (hway : way * n = (t' : Int) - (t : Int)) (hw : way = 1 ∨ way = -1) (ht' : t' ≤ (E a.data.toList).length) (hb : (t : Int) ≤ 1000000 ∧ n ≤ 1000000 ∧ (t' : Int) ≤ 1000000) :
    Calls Tryz.prog 33 #[.pointer (some ⟨d.p, 0, none⟩), .string s, .int .i64 n, .int .i64 way, .int .i64 most] w fun e w' => e = .returned (.int .i64 0) ∧ DkS w' d f N b E k (setG g s.data.toList (a, t')) ∧ Fr (At1 d.r) w w' := by
  have hd : decide (n < 0) = false := decide_eq_false (by omega)
  have hd2 : decide (most < n) = false := decide_eq_false (by omega)
  have HD := Lib.hid h
  have HS := Lib.hid hs
  obtain ⟨hsa, hta⟩ := h.tk _ _ hg
  simp only at hsa hta
  have x2 := h.blk.cell 2
  simp only [List.getElem?_toArray, List.getElem?_cons_zero, List.getElem?_cons_succ] at x2
  have hl := ((h.rd.fr (w' := w) (Fr.refl No w) (fun h => h)).look Tryz.underlying9 Tryz.underlying73 (zeroR w) s hs)
  rw [rdT_some hg] at hl
  simp only [Option.getD_some] at hl
  have hwn : wrap64 (way * n) = (t' : Int) - t := by rw [hway]; unfold wrap64; omega
  have hwt : wrap64 ((t : Int) + ((t' : Int) - t)) = (t' : Int) := by unfold wrap64; omega
  have HTK : Hid (∀ nm r, setG g s.data.toList (a, t') nm = some r → r.1.size ≤ maxLen ∧ r.2 ≤ (E r.1.data.toList).length) := fun nm r hr => by
    unfold setG at hr
    split at hr
    · injection hr with hr
      subst hr
      exact ⟨hsa, ht'⟩
    · exact h.tk nm r hr
  have HCT : Hid (cnt (rdT g) k s.data.toList = k) := by show _ = _; unfold cnt; rw [rdT_some hg]; rfl
  have hlt := h.blk.lt
  have hbk := (h.blk.alloc (.cells #[.string a, .int .i64 (t' : Int)] 84)).drew
  have y2 := hbk.cell 2
  simp only [List.getElem?_toArray, List.getElem?_cons_zero, List.getElem?_cons_succ] at y2
  have HF : Hid (Fr No w (w.alloc (.cells #[.string a, .int .i64 (t' : Int)] 84)).drew) := Fr.drew ((Fr.refl _ _).alloc _)
  have hz := (Blk.new w 84 #[.string a, .int .i64 (t' : Int)]).drew
  have z0 := hz.cell 0
  have z1 := hz.cell 1
  simp only [List.getElem?_toArray, List.getElem?_cons_zero, List.getElem?_cons_succ] at z0 z1
  obtain ⟨w3, hrun, ht3, hf3⟩ := (HD.out.rd.fr HF.out (fun h => h)).put Tryz.underlying9 Tryz.underlying73 (by unfold maxLen; omega) s HS.out (.agg #[.string a, .int .i64 (t' : Int)])
  rw [HCT.out] at ht3
  have HT3 : Hid (TabS Tryz.prog 9 w3 d.r k (rdT (setG g s.data.toList (a, t')))) := by
    have := rdT_upd g s.data.toList (a, t')
    show TabS _ _ _ _ _ _
    unfold setG
    rw [← this]
    exact ht3
  have HF3 := Lib.hid hf3
  clear h hs hg hta hsa hk hway hw hb hbk hz ht3 hf3
  go_enter Tryz.func33, Tryz.ntmps33
  go_upto_region 5 with (fail)
  have hfin : Fr (At1 d.r) w w3 := (HF.out.mono fun _ _ h => False.elim h).trans HF3.out
  have HFIN := Lib.hid (And.intro ((HD.out.no HF.out).read HF3.out HT3.out HTK.out) hfin)
  clear hfin
  go_region_law (fail)
  all_goals
    go_wp2
    go_ret
    exact ⟨rfl, HFIN.out⟩
set_option maxRecDepth 100000 in
set_option maxHeartbeats 1000000 in
theorem take_none (s : ByteArray) (n : Int) (w : World) (h : DkS w d f N b E k g) (hs : s.size ≤ maxLen) (hg : g s.data.toList = none) :
    Calls Tryz.prog 13 #[.pointer (some ⟨d.p, 0, none⟩), .string s, .int .i64 n] w fun e w' => e = .returned (.int .i64 6) ∧ Fr No w w' := by
  have HX := Lib.hid (find_none s w h hs hg)
  clear h hg
  go_enter Tryz.func13, Tryz.ntmps13
  go_wp2_with fail
  refine HX.out.mono ?_
  rintro e w1 ⟨rfl, hf⟩
  have HF := Lib.hid hf
  clear hf HX
  go_wp2
  go_ret
  exact ⟨rfl, HF.out.alloc _⟩
set_option maxRecDepth 100000 in
set_option maxHeartbeats 1000000 in
theorem take_some (s : ByteArray) (n : Int) (w : World) (h : DkS w d f N b E k g) (hs : s.size ≤ maxLen) (hk : k ≤ 1000000) (hn64 : In64 n) {a : ByteArray} {t : Nat} (hg : g s.data.toList = some (a, t)) (hl : (E a.data.toList).length ≤ 1000000) :
    Calls Tryz.prog 13 #[.pointer (some ⟨d.p, 0, none⟩), .string s, .int .i64 n] w fun e w' => e = .returned (.int .i64 (moveE n ((E a.data.toList).length - t : Nat))) ∧ DkS w' d f N b E k (tookG g s.data.toList a (t + n.toNat) (moveE n ((E a.data.toList).length - t : Nat))) ∧ Fr (At1 d.r) w w' := by
  have HX := Lib.hid (find_some s w h hs hg)
  have HD := Lib.hid h
  obtain ⟨hsa, hta⟩ := h.tk _ _ hg
  simp only at hsa hta
  obtain ⟨c, hc, hv⟩ := h.ev
  have HV := Lib.hid hv
  have HB := Lib.hid h.blk
  have HMV : Hid (∀ W, Fr No w W → Calls Tryz.prog 33 #[.pointer (some ⟨d.p, 0, none⟩), .string s, .int .i64 n, .int .i64 1, .int .i64 (((E a.data.toList).length : Int) - t)] W fun e w' => e = .returned (.int .i64 (moveE n ((E a.data.toList).length - t : Nat))) ∧ DkS w' d f N b E k (tookG g s.data.toList a (t + n.toNat) (moveE n ((E a.data.toList).length - t : Nat))) ∧ Fr (At1 d.r) W w') := fun W hW => by
    have ec : (((E a.data.toList).length - t : Nat) : Int) = ((E a.data.toList).length : Int) - t := by omega
    by_cases hb : n < 0 ∨ ((E a.data.toList).length : Int) - t < n
    · have e0 : moveE n ((E a.data.toList).length - t : Nat) = 13 := by unfold moveE; rw [if_pos (by rw [ec]; exact hb)]
      rw [e0]
      refine (dmove_bad s n 1 _ _ W hb).mono ?_
      rintro e w' ⟨rfl, rfl⟩
      exact ⟨rfl, h.no hW, Fr.refl _ _⟩
    · have e0 : moveE n ((E a.data.toList).length - t : Nat) = 0 := by unfold moveE; rw [if_neg (by rw [ec]; exact hb)]
      rw [e0]
      rw [not_or] at hb
      exact dmove_any s n 1 _ W (h.no hW) hs hk hg (by omega) (by omega) (by omega) (.inl rfl) (by omega) (by omega)
  clear h hg hv hc
  have hLt : (E a.data.toList).length ≤ 1000000 := hl
  clear hl
  generalize moveE n ((E a.data.toList).length - t : Nat) = e0 at *
  go_enter Tryz.func13, Tryz.ntmps13
  go_wp2_with fail
  refine HX.out.mono ?_
  rintro e w1 ⟨rfl, hf⟩
  have hsl := (HV.out.noF hf).sl a.data.toList
  obtain ⟨A, c1, hA, hc1, hc2⟩ := hsl.form
  have hf2 : Fr No w (w1.alloc (.cells #[.string a, .int .i64 (t : Int)] 84)) := hf.alloc _
  have hdr : d.r ≠ d.p := fun e => HD.out.rd.ne_ HD.out.blk e
  have hrl := HD.out.rd.lt
  have hX : ∀ W, Fr (At1 d.r) (w1.alloc (.cells #[.string a, .int .i64 (t : Int)] 84)) W → Fr (At1 d.r) (w1.alloc (.cells #[.string a, .int .i64 (t : Int)] 84)) W ∧ W.cell? ⟨d.p, 1, none⟩ = some (.map (some d.m)) ∧ W.cell? ⟨w1.heap.size, 0, none⟩ = some (.string a) ∧ W.cell? ⟨w1.heap.size, 1, none⟩ = some (.int .i64 (t : Int)) ∧ (Instr.lookup 72 (.map (some d.m)) (.string a) false).run Tryz.prog W = .ok (.slice A (E a.data.toList).length c1) W := fun W hW => by
    have h1 := (HB.out.fr hf2 (fun h => h)).fr hW (fun e => hdr (show d.p = d.r from e).symm)
    have h2 := (Blk.new w1 84 #[.string a, .int .i64 (t : Int)]).fr hW (fun e => by
      have e : w1.heap.size = d.r := e
      have := hf.size
      omega)
    have h3 := ((HV.out.noF hf2).fr hW (fun i hi e => HV.out.farT HD.out.rd HD.out.mr ((show i = d.r from e) ▸ hi))).look a hsa
    rw [hA] at h3
    exact ⟨hW, h1.cell 1, h2.cell 0, h2.cell 1, h3⟩
  have HX2 := Lib.hid hX
  have HF : Hid (Fr No w (w1.alloc (.cells #[.string a, .int .i64 (t : Int)] 84)).drew) := Fr.drew hf2
  have HM2 := Lib.hid (HMV.out _ HF.out)
  generalize (E a.data.toList) = L at *
  have hwl : wrap64 ((L.length : Int) - t) = (L.length : Int) - t := by unfold wrap64; omega
  have hwl2 : IntKind.i64.wrap ((L.length : Int) - t) = (L.length : Int) - t := IntWalk.i64_in _ (by omega)
  clear hf hf2 HMV hsl hA hX hdr hrl
  go_upto_region 4 with (fail)
  generalize w1.alloc (.cells #[.string a, .int .i64 (t : Int)] 84) = w2 at *
  have hk0 : Fr (At1 d.r) w2 w2.drew := (Fr.refl _ w2).drew
  go_region_held3 (fun W => Fr (At1 d.r) w2 W ∧ W.cell? ⟨d.p, 1, none⟩ = some (.map (some d.m)) ∧ W.cell? ⟨w1.heap.size, 0, none⟩ = some (.string a) ∧ W.cell? ⟨w1.heap.size, 1, none⟩ = some (.int .i64 (t : Int)) ∧ (Instr.lookup 72 (.map (some d.m)) (.string a) false).run Tryz.prog W = .ok (.slice A L.length c1) W)
    (first
      | (with_reducible refine HX2.out _ ?_; with_reducible assumption))
    (first
      | (go_at_call 33; (with_reducible refine HM2.out.mono ?_); rintro e q1 ⟨rfl, hd3, hg⟩; have ka1 : Fr (At1 d.r) w2 q1 := hk0.trans hg; have HD3 := Lib.hid hd3; have HF3 : Hid (Fr (At1 d.r) w q1) := (HF.out.mono fun _ _ h => False.elim h).trans hg; clear hg hd3))
  all_goals
    go_wp2
    go_ret
    exact ⟨rfl, HD3.out, HF3.out⟩
set_option maxRecDepth 100000 in
set_option maxHeartbeats 1000000 in
theorem back_none (s : ByteArray) (n : Int) (w : World) (h : DkS w d f N b E k g) (hs : s.size ≤ maxLen) (hg : g s.data.toList = none) :
    Calls Tryz.prog 15 #[.pointer (some ⟨d.p, 0, none⟩), .string s, .int .i64 n] w fun e w' => e = .returned (.int .i64 6) ∧ Fr No w w' := by
  have HX := Lib.hid (find_none s w h hs hg)
  clear h hg
  go_enter Tryz.func15, Tryz.ntmps15
  go_wp2_with fail
  refine HX.out.mono ?_
  rintro e w1 ⟨rfl, hf⟩
  have HF := Lib.hid hf
  clear hf HX
  go_wp2
  go_ret
  exact ⟨rfl, HF.out.alloc _⟩
set_option maxRecDepth 100000 in
set_option maxHeartbeats 1000000 in
theorem back_some (s : ByteArray) (n : Int) (w : World) (h : DkS w d f N b E k g) (hs : s.size ≤ maxLen) (hk : k ≤ 1000000) (hn64 : In64 n) {a : ByteArray} {t : Nat} (hg : g s.data.toList = some (a, t)) (hl : (E a.data.toList).length ≤ 1000000) :
    Calls Tryz.prog 15 #[.pointer (some ⟨d.p, 0, none⟩), .string s, .int .i64 n] w fun e w' => e = .returned (.int .i64 (moveE n (t : Nat))) ∧ DkS w' d f N b E k (tookG g s.data.toList a (t - n.toNat) (moveE n (t : Nat))) ∧ Fr (At1 d.r) w w' := by
  have HX := Lib.hid (find_some s w h hs hg)
  have HD := Lib.hid h
  obtain ⟨hsa, hta⟩ := h.tk _ _ hg
  simp only at hsa hta
  have HMV : Hid (∀ W, Fr No w W → Calls Tryz.prog 33 #[.pointer (some ⟨d.p, 0, none⟩), .string s, .int .i64 n, .int .i64 (-1), .int .i64 (t : Int)] W fun e w' => e = .returned (.int .i64 (moveE n (t : Nat))) ∧ DkS w' d f N b E k (tookG g s.data.toList a (t - n.toNat) (moveE n (t : Nat))) ∧ Fr (At1 d.r) W w') := fun W hW => by
    by_cases hb : n < 0 ∨ (t : Int) < n
    · have e0 : moveE n (t : Nat) = 13 := by unfold moveE; rw [if_pos hb]
      rw [e0]
      refine (dmove_bad s n (-1) _ _ W hb).mono ?_
      rintro e w' ⟨rfl, rfl⟩
      exact ⟨rfl, h.no hW, Fr.refl _ _⟩
    · have e0 : moveE n (t : Nat) = 0 := by unfold moveE; rw [if_neg hb]
      rw [e0]
      rw [not_or] at hb
      exact dmove_any s n (-1) _ W (h.no hW) hs hk hg (by omega) (by omega) (by omega) (.inr rfl) (by omega) (by omega)
  clear h hg
  generalize moveE n (t : Nat) = e0 at *
  go_enter Tryz.func15, Tryz.ntmps15
  go_wp2_with fail
  refine HX.out.mono ?_
  rintro e w1 ⟨rfl, hf⟩
  have HF : Hid (Fr No w (w1.alloc (.cells #[.string a, .int .i64 (t : Int)] 84))) := hf.alloc _
  have HM2 := Lib.hid (HMV.out _ HF.out)
  clear hf HMV
  go_wp2_with fail
  (with_reducible refine HM2.out.mono ?_)
  rintro e w3 ⟨rfl, hd3, hf3⟩
  have HD3 := Lib.hid hd3
  have HF3 := Lib.hid hf3
  clear hd3 hf3
  go_wp2
  go_ret
  exact ⟨rfl, HD3.out, (HF.out.mono fun _ _ h => False.elim h).trans HF3.out⟩
end
end Go.Proofs.YtjbeaoabhhaiiaaGreat

namespace Go.Proofs.YtjbeaoabhhaiiaaGreat
open Go.RowKit Go.My Go.Maps
set_option linter.unusedSimpArgs false
set_option linter.unusedVariables false
attribute [local go_sem ↓] Go.wp_at_zero Go.wp_at_succ

theorem tsAt {w : World} {F : Nat → Prop} {A : Option Addr} {n : Nat} {L : List (List UInt8)} (h : Rd w F 1 A n (ts L)) (k : Nat) (hk : k < n) : ∃ ad, ∃ hl : k < L.length, A = some ad ∧ F ad.block ∧ w.cell? (ad.add k) = some (.string ⟨L[k].toArray⟩) := by
  obtain ⟨ad, rfl, hF, hc⟩ := h.2 (by omega)
  have hl : k < L.length := by have := h.1; rw [ts_length] at this; omega
  exact ⟨ad, hl, rfl, hF, hc k _ (ts_get L k hl)⟩
/-- the first text for which q holds -/
def idxS (q : List UInt8 → Bool) (L : List (List UInt8)) : Int := match L.findIdx? q with | some i => (i : Int) | none => -1
def IxSRel (w : World) (q : List UInt8 → Bool) (L : List (List UInt8)) (iv : Value) (wr : World) : Prop := ∃ k : Nat, k ≤ L.length ∧ iv = .int .i64 k ∧ (∀ g ∈ L.take k, q g = false) ∧ Fr No w wr
theorem indexS_any (F : Nat → Prop) (A : Option Addr) (c : Nat) (L : List (List UInt8)) (f : FuncId) (bs : Array Value) (q : List UInt8 → Bool) (w : World) (hr : Rd w F 1 A L.length (ts L)) (hL : L.length ≤ 1000000)
    (hf : ∀ args W, (callFunc f args).run Tryz.prog W = .ok (.enter f args) W)
    (hc : ∀ W, Fr No w W → ∀ g ∈ L, Calls Tryz.prog f (#[.string ⟨g.toArray⟩] ++ bs) W fun e w' => e = .returned (.bool (q g)) ∧ Fr No W w') :
    Calls Tryz.prog 72 #[.slice A L.length c, .func (.func f) #[] bs] w fun e w' => e = .returned (.int .i64 (idxS q L)) ∧ Fr No w w' := by
  have HR := Lib.hid hr
  have HC := Lib.hid hc
  clear hr hc
  go_enter Tryz.func72, Tryz.ntmps72
  go_wp2
  go_loopw [8] (fun iv wr => IxSRel w q L iv wr) (fun iv _ => L.length - (intOf iv).toNat)
  case atStart => exact ⟨0, Nat.zero_le _, rfl, fun g hg => by simp at hg, Fr.refl _ _⟩
  case round =>
    obtain ⟨k, hk, rfl, hall, hfr⟩ := hrel
    by_cases hlt : k < L.length
    · obtain ⟨ad, hl, rfl, _, q0⟩ := tsAt (HR.out.fr (by omega) hfr fun _ _ _ h => h) k hlt
      have HCK := Lib.hid fun W hW => HC.out W hW L[k] (List.getElem_mem hlt)
      have HFR := Lib.hid hfr
      have hT : q L[k] = true → idxS q L = (k : Int) := fun h => by
        unfold idxS
        rw [List.findIdx?_eq_some_iff_getElem.2 ⟨hlt, h, fun j hj => by
          have := hall L[j] (List.mem_take_iff_getElem.2 ⟨j, by omega, rfl⟩)
          simp [this]⟩]
      have hN : q L[k] = false → ∀ g ∈ L.take (k + 1), q g = false := fun h g hg => by
        rw [List.take_succ_eq_append_getElem hlt, List.mem_append] at hg
        rcases hg with hg | hg
        · exact hall g hg
        · rw [List.mem_singleton.1 hg]; exact h
      have HT := Lib.hid hT
      have HN := Lib.hid hN
      generalize L[k] = g at *
      clear hall hfr hT hN
      cases hb : q g
      · rw [hb] at HCK
        have HN2 := Lib.hid (HN.out hb)
        clear HT HN hb
        go_wp2_with fail
        refine (HCK.out _ HFR.out).mono ?_
        rintro e w1 ⟨rfl, hf1⟩
        clear q0
        go_wp2
        go_roundw
        case rel => exact ⟨k + 1, by omega, by go_num, HN2.out, HFR.out.trans hf1⟩
        case measure => simp [intOf]; omega
      · rw [hb] at HCK
        have HT2 := Lib.hid (HT.out hb)
        clear HT HN hb
        go_wp2_with fail
        refine (HCK.out _ HFR.out).mono ?_
        rintro e w1 ⟨rfl, hf1⟩
        clear q0
        go_wp2
        go_ret
        exact ⟨by rw [HT2.out]; rfl, HFR.out.trans hf1⟩
    · obtain rfl : k = L.length := by omega
      have HF : Hid (idxS q L = -1) := by
        show _ = _
        unfold idxS
        rw [List.take_length] at hall
        rw [List.findIdx?_eq_none_iff.2 hall]
      go_wp2
      go_ret
      exact ⟨by rw [HF.out]; rfl, hfr⟩
end Go.Proofs.YtjbeaoabhhaiiaaGreat

namespace Go.Proofs.YtjbeaoabhhaiiaaGreat
open Go.RowKit Go.My Go.Maps
set_option linter.unusedSimpArgs false
set_option linter.unusedVariables false
attribute [local go_sem ↓] Go.wp_at_zero Go.wp_at_succ

def InRel (w : World) (L : List (List UInt8)) (s : List UInt8) (iv : Value) (wr : World) : Prop := ∃ k : Nat, k ≤ L.length ∧ iv = .int .i64 k ∧ (∀ x ∈ L.take k, x ≠ s) ∧ wr = w
set_option maxRecDepth 100000 in
theorem indexT_any (F : Nat → Prop) (A : Option Addr) (c : Nat) (L : List (List UInt8)) (s : List UInt8) (w : World) (hr : Rd w F 1 A L.length (ts L)) (hl : L.length ≤ 1000000) :
    Calls Tryz.prog 51 #[.slice A L.length c, .string ⟨s.toArray⟩] w fun e w' => (∃ n : Int, e = .returned (.int .i64 n) ∧ (0 ≤ n ↔ s ∈ L)) ∧ w' = w := by
  have HR := Lib.hid hr
  have HL := Lib.hid hl
  clear hr hl
  go_enter Tryz.func51, Tryz.ntmps51
  go_wp2
  go_loopw [8] (fun iv wr => InRel w L s iv wr) (fun iv _ => L.length - (intOf iv).toNat)
  case atStart => exact ⟨0, Nat.zero_le _, rfl, fun x hx => by simp at hx, rfl⟩
  case round =>
    obtain ⟨k, hk, rfl, hno, rfl⟩ := hrel
    have hk62 : (k : Int) < 9223372036854775807 := by have := HL.out; omega
    by_cases hlt : k < L.length
    · obtain ⟨ad, hl, rfl, _, q0⟩ := tsAt HR.out k hlt
      have HTK : Hid (L.take (k + 1) = L.take k ++ [L[k]]) := List.take_succ_eq_append_getElem hlt
      have HM : Hid (L[k] ∈ L) := List.getElem_mem hlt
      have HNO := Lib.hid hno
      have HLT : Hid (k + 1 ≤ L.length) := hlt
      generalize L[k] = x at *
      clear hno
      by_cases hx : x = s
      · subst hx
        go_wp2
        go_ret
        exact ⟨⟨(k : Int), rfl, fun _ => HM.out, fun _ => by omega⟩, rfl⟩
      · have hz1 : (s == x) = false := beq_eq_false_iff_ne.2 (fun e => hx e.symm)
        have hz2 : ((⟨s.toArray⟩ : ByteArray).toList == (⟨x.toArray⟩ : ByteArray).toList) = false := by rw [ByteArray.toList_eq, ByteArray.toList_eq]; exact hz1
        have HX := Lib.hid hx
        clear hx
        go_wp2
        go_roundw
        case rel =>
          refine ⟨k + 1, HLT.out, by go_num, fun y hy => ?_, rfl⟩
          rw [HTK.out, List.mem_append, List.mem_singleton] at hy
          rcases hy with hy | hy
          · exact HNO.out y hy
          · rw [hy]; exact HX.out
        case measure => have := HLT.out; simp [intOf]; omega
    · obtain rfl : k = L.length := by omega
      have HN : Hid (s ∉ L) := by
        rw [List.take_length] at hno
        exact fun h => hno s h rfl
      clear hno
      go_wp2
      go_ret
      exact ⟨⟨-1, rfl, fun h => by omega, fun h => absurd h HN.out⟩, rfl⟩
theorem containsT_any (F : Nat → Prop) (A : Option Addr) (c : Nat) (L : List (List UInt8)) (s : List UInt8) (w : World) (hr : Rd w F 1 A L.length (ts L)) (hl : L.length ≤ 1000000) :
    Calls Tryz.prog 28 #[.slice A L.length c, .string ⟨s.toArray⟩] w fun e w' => e = .returned (.bool (decide (s ∈ L))) ∧ w' = w := by
  have HX := Lib.hid (indexT_any F A c L s w hr hl)
  clear hr hl
  go_enter Tryz.func28, Tryz.ntmps28
  go_wp2_with fail
  refine HX.out.mono ?_
  rintro e w1 ⟨⟨n, rfl, hn⟩, rfl⟩
  have HE : Hid (decide (0 ≤ n) = decide (s ∈ L)) := decide_eq_decide.2 hn
  clear hn HX
  go_wp2
  go_ret
  exact ⟨by rw [← HE.out]; rfl, rfl⟩
theorem fr_set11 (w : World) (g : Nat) (a0 a1 a2 a3 a4 a5 a6 a7 a8 a9 a10 : Value) : Fr (At1 g) w (((((((((((w.setCell ⟨g, 0, none⟩ a0).setCell ⟨g, 1, none⟩ a1).setCell ⟨g, 2, none⟩ a2).setCell ⟨g, 3, none⟩ a3).setCell ⟨g, 4, none⟩ a4).setCell ⟨g, 5, none⟩ a5).setCell ⟨g, 6, none⟩ a6).setCell ⟨g, 7, none⟩ a7).setCell ⟨g, 8, none⟩ a8).setCell ⟨g, 9, none⟩ a9).setCell ⟨g, 10, none⟩ a10) := ((((((((((fr_set w g 0 a0).trans (fr_set _ g 1 a1)).trans (fr_set _ g 2 a2)).trans (fr_set _ g 3 a3)).trans (fr_set _ g 4 a4)).trans (fr_set _ g 5 a5)).trans (fr_set _ g 6 a6)).trans (fr_set _ g 7 a7)).trans (fr_set _ g 8 a8)).trans (fr_set _ g 9 a9)).trans (fr_set _ g 10 a10)
theorem blk_set11 {w : World} {g : Nat} {t : TypeId} {x0 x1 x2 x3 x4 x5 x6 x7 x8 x9 x10 : Value} (h : Blk w g t #[x0, x1, x2, x3, x4, x5, x6, x7, x8, x9, x10]) (a0 a1 a2 a3 a4 a5 a6 a7 a8 a9 a10 : Value) : Blk (((((((((((w.setCell ⟨g, 0, none⟩ a0).setCell ⟨g, 1, none⟩ a1).setCell ⟨g, 2, none⟩ a2).setCell ⟨g, 3, none⟩ a3).setCell ⟨g, 4, none⟩ a4).setCell ⟨g, 5, none⟩ a5).setCell ⟨g, 6, none⟩ a6).setCell ⟨g, 7, none⟩ a7).setCell ⟨g, 8, none⟩ a8).setCell ⟨g, 9, none⟩ a9).setCell ⟨g, 10, none⟩ a10) g t #[a0, a1, a2, a3, a4, a5, a6, a7, a8, a9, a10] := by
  have h0 : Blk (w.setCell ⟨g, 0, none⟩ a0) g t #[a0, x1, x2, x3, x4, x5, x6, x7, x8, x9, x10] := h.set_ 0 a0
  have h1 : Blk ((w.setCell ⟨g, 0, none⟩ a0).setCell ⟨g, 1, none⟩ a1) g t #[a0, a1, x2, x3, x4, x5, x6, x7, x8, x9, x10] := h0.set_ 1 a1
  have h2 : Blk (((w.setCell ⟨g, 0, none⟩ a0).setCell ⟨g, 1, none⟩ a1).setCell ⟨g, 2, none⟩ a2) g t #[a0, a1, a2, x3, x4, x5, x6, x7, x8, x9, x10] := h1.set_ 2 a2
  have h3 : Blk ((((w.setCell ⟨g, 0, none⟩ a0).setCell ⟨g, 1, none⟩ a1).setCell ⟨g, 2, none⟩ a2).setCell ⟨g, 3, none⟩ a3) g t #[a0, a1, a2, a3, x4, x5, x6, x7, x8, x9, x10] := h2.set_ 3 a3
  have h4 : Blk (((((w.setCell ⟨g, 0, none⟩ a0).setCell ⟨g, 1, none⟩ a1).setCell ⟨g, 2, none⟩ a2).setCell ⟨g, 3, none⟩ a3).setCell ⟨g, 4, none⟩ a4) g t #[a0, a1, a2, a3, a4, x5, x6, x7, x8, x9, x10] := h3.set_ 4 a4
  have h5 : Blk ((((((w.setCell ⟨g, 0, none⟩ a0).setCell ⟨g, 1, none⟩ a1).setCell ⟨g, 2, none⟩ a2).setCell ⟨g, 3, none⟩ a3).setCell ⟨g, 4, none⟩ a4).setCell ⟨g, 5, none⟩ a5) g t #[a0, a1, a2, a3, a4, a5, x6, x7, x8, x9, x10] := h4.set_ 5 a5
  have h6 : Blk (((((((w.setCell ⟨g, 0, none⟩ a0).setCell ⟨g, 1, none⟩ a1).setCell ⟨g, 2, none⟩ a2).setCell ⟨g, 3, none⟩ a3).setCell ⟨g, 4, none⟩ a4).setCell ⟨g, 5, none⟩ a5).setCell ⟨g, 6, none⟩ a6) g t #[a0, a1, a2, a3, a4, a5, a6, x7, x8, x9, x10] := h5.set_ 6 a6
  have h7 : Blk ((((((((w.setCell ⟨g, 0, none⟩ a0).setCell ⟨g, 1, none⟩ a1).setCell ⟨g, 2, none⟩ a2).setCell ⟨g, 3, none⟩ a3).setCell ⟨g, 4, none⟩ a4).setCell ⟨g, 5, none⟩ a5).setCell ⟨g, 6, none⟩ a6).setCell ⟨g, 7, none⟩ a7) g t #[a0, a1, a2, a3, a4, a5, a6, a7, x8, x9, x10] := h6.set_ 7 a7
  have h8 : Blk (((((((((w.setCell ⟨g, 0, none⟩ a0).setCell ⟨g, 1, none⟩ a1).setCell ⟨g, 2, none⟩ a2).setCell ⟨g, 3, none⟩ a3).setCell ⟨g, 4, none⟩ a4).setCell ⟨g, 5, none⟩ a5).setCell ⟨g, 6, none⟩ a6).setCell ⟨g, 7, none⟩ a7).setCell ⟨g, 8, none⟩ a8) g t #[a0, a1, a2, a3, a4, a5, a6, a7, a8, x9, x10] := h7.set_ 8 a8
  have h9 : Blk ((((((((((w.setCell ⟨g, 0, none⟩ a0).setCell ⟨g, 1, none⟩ a1).setCell ⟨g, 2, none⟩ a2).setCell ⟨g, 3, none⟩ a3).setCell ⟨g, 4, none⟩ a4).setCell ⟨g, 5, none⟩ a5).setCell ⟨g, 6, none⟩ a6).setCell ⟨g, 7, none⟩ a7).setCell ⟨g, 8, none⟩ a8).setCell ⟨g, 9, none⟩ a9) g t #[a0, a1, a2, a3, a4, a5, a6, a7, a8, a9, x10] := h8.set_ 9 a9
  have h10 : Blk (((((((((((w.setCell ⟨g, 0, none⟩ a0).setCell ⟨g, 1, none⟩ a1).setCell ⟨g, 2, none⟩ a2).setCell ⟨g, 3, none⟩ a3).setCell ⟨g, 4, none⟩ a4).setCell ⟨g, 5, none⟩ a5).setCell ⟨g, 6, none⟩ a6).setCell ⟨g, 7, none⟩ a7).setCell ⟨g, 8, none⟩ a8).setCell ⟨g, 9, none⟩ a9).setCell ⟨g, 10, none⟩ a10) g t #[a0, a1, a2, a3, a4, a5, a6, a7, a8, a9, a10] := h9.set_ 10 a10
  exact h10
/-- a marked order's cells -/
def mkd (o : Od) (v a : Value) : Value := .agg (o.cs v ++ [a]).toArray
end Go.Proofs.YtjbeaoabhhaiiaaGreat

namespace Go.Proofs.YtjbeaoabhhaiiaaGreat
open Go.RowKit Go.My Go.Maps
set_option linter.unusedSimpArgs false
set_option linter.unusedVariables false
attribute [local go_sem ↓] Go.wp_at_zero Go.wp_at_succ

/-- what the first k accounts give -/
def stepEv (S : List Ac) (o : Od) (k : Nat) (nm : List UInt8) : List Ev := match getA (S.take k) nm with | some a => if nm ∈ touchL o then [⟨o.cl, o.sq, o.kd, a.hv, a.st⟩] else [] | none => []
theorem stepEv_zero (S : List Ac) (o : Od) (nm : List UInt8) : stepEv S o 0 nm = [] := rfl
theorem stepEv_all {b : Bk} {o : Od} (h : (doR b o).err = 0) (nm : List UInt8) : stepEv (doB b o).S o (doB b o).S.length nm = newEv b o nm := by
  unfold stepEv newEv evAt
  rw [List.take_length]
  by_cases ht : nm ∈ touchL o
  · rw [if_pos ⟨h, ht⟩]
    cases getA (doB b o).S nm with
    | none => rfl
    | some a => simp only [if_pos ht]
  · rw [if_neg (fun e => ht e.2)]
    cases getA (doB b o).S nm with
    | none => rfl
    | some a => simp only [if_neg ht]
theorem getA_take {S : List Ac} (hr : Rise S) {k : Nat} (hk : k < S.length) : getA (S.take k) S[k].name = none := by
  unfold getA
  rw [List.find?_eq_none]
  intro a ha
  obtain ⟨j, hj, rfl⟩ := List.mem_take_iff_getElem.1 ha
  have h1 := List.pairwise_iff_getElem.1 hr j k (by omega) hk (by omega)
  intro e
  have e : S[j].name = S[k].name := by simpa using e
  have h1 : bytesBefore S[j].name S[k].name = true := h1
  rw [e] at h1
  exact str_asymm h1 h1
theorem getA_next (S : List Ac) {k : Nat} (hk : k < S.length) (nm : List UInt8) : getA (S.take (k + 1)) nm = (getA (S.take k) nm).or (if S[k].name = nm then some S[k] else none) := by
  unfold getA
  rw [List.take_succ_eq_append_getElem hk, List.find?_append]
  congr 1
  rw [List.find?_cons]
  by_cases e : S[k].name = nm
  · rw [if_pos e, beq_iff_eq.2 e]
  · rw [if_neg e, beq_eq_false_iff_ne.2 e]
    rfl
theorem stepEv_put {S : List Ac} (hr : Rise S) {o : Od} {k : Nat} (hk : k < S.length) (ht : S[k].name ∈ touchL o) (E : List UInt8 → List Ev) (nm : List UInt8) :
    (if nm = S[k].name then (E nm ++ stepEv S o k nm) ++ [⟨o.cl, o.sq, o.kd, S[k].hv, S[k].st⟩] else E nm ++ stepEv S o k nm) = E nm ++ stepEv S o (k + 1) nm := by
  unfold stepEv
  rw [getA_next S hk]
  by_cases e : nm = S[k].name
  · rw [if_pos e, e, getA_take hr hk]
    simp only [if_true, Option.none_or, if_pos ht, List.append_nil]
  · rw [if_neg e, if_neg (fun h => e h.symm), Option.or_none]
theorem stepEv_skip {S : List Ac} (hr : Rise S) {o : Od} {k : Nat} (hk : k < S.length) (ht : S[k].name ∉ touchL o) (nm : List UInt8) : stepEv S o k nm = stepEv S o (k + 1) nm := by
  unfold stepEv
  rw [getA_next S hk]
  by_cases e : nm = S[k].name
  · rw [e, getA_take hr hk]
    simp only [if_true, Option.none_or, if_neg ht]
  · rw [if_neg (fun h => e h.symm), Option.or_none]
theorem stepEv_len (S : List Ac) (o : Od) (k : Nat) (nm : List UInt8) : (stepEv S o k nm).length ≤ 1 := by
  unfold stepEv
  split
  · split <;> simp
  · simp

/-- 'm[k] = append(m[k], e)': at the append, the map's store at hand -/
theorem step_app_ev {ops : Array Oper} {o : Oper} {a : Act} {w : World} {K : Act → World → Prop} {Q : Exit → Act → World → Prop} {X : Prop}
    (hgd : o.guard = none) (s x : Operand) (hop : o.op = Op.call { callee := Callee.builtin Builtin.append, args := #[s, x], argTypes := #[44, 44] })
    {v : Value} {n : Nat} {xs : List Value} (hown : Own w 71 5 v n xs) (hs : a.eval s = v) {B : Nat} {c0 c1 c2 c3 c4 : Value} (hB : w.heap[B]? = some (.cells #[c0, c1, c2, c3, c4] 71 (0, 0))) (h1 : ∀ y ∈ [c0, c1, c2, c3, c4], y.oneCell' = true) (hx : a.eval x = .slice (some ⟨B, 0, none⟩) 1 1)
    (hn : n ≤ 1000000) {m c : Nat} {f : List UInt8 → Option Value} (ht : TabS Tryz.prog 9 w m c f) (hc : c < maxLen) (nm : ByteArray) (hnm : nm.size ≤ maxLen) (hv : v.ownBlock ≠ some m)
    (h : ∀ v' w1 w2, (Instr.mapUpdate 72 (.map (some m)) (.string nm) v').run Tryz.prog w1 = .ok () w2 → Own w1 71 5 v' (n + 1) (xs ++ [c0, c1, c2, c3, c4]) → Fr (AtO v.ownBlock) w w1 → (v'.ownBlock = v.ownBlock ∨ v'.ownBlock = some w.heap.size) → TabS Tryz.prog 9 w2 m (cnt f c nm.data.toList) (upd f nm.data.toList v') → Fr (At1 m) w1 w2 → K (a.put o.dst v') w1) :
    if Region.wanted o (yielded ops a.tmps) = true then Oper.wp Tryz.prog o a w K Q else X := by
  have hsrc : Src Tryz.prog w 5 44 (.slice (some ⟨B, 0, none⟩) 1 1) 1 [c0, c1, c2, c3, c4] := Src.of_new (cs := #[c0, c1, c2, c3, c4]) (t := 71) B hB Tryz.underlying44 rfl h1
  refine step_app (size := 5) (bytes := 40) (n := n) (m := 1) w hgd s x 44 44 hop elE hown hs hsrc hx (by simp only [maxLen]; omega) (by omega) ?_
  intro v' w1 h2 h3 h4
  have ht1 := ht.fr h3 (fun e => hv (show v.ownBlock = some m from e))
  obtain ⟨w2, hrun, ht2, hf2⟩ := ht1.put Tryz.underlying9 Tryz.underlying72 hc nm hnm v'
  exact h v' w1 w2 hrun h2 h3 h4 ht2 hf2
theorem LgS.fr12 {w w' : World} {F S : Nat → Prop} {v : Value} {L : List Lg} (h : LgS w F v L) (hf : Fr S w w') (hn : ∀ k, F k → k < w.heap.size → ¬ S k) : LgS w' F v L := by
  obtain ⟨A, c, cells, e, hr, r⟩ := h
  exact ⟨A, c, cells, e, hr.fr (by omega) hf hn, r⟩
theorem fr_set4' (w : World) (g : Nat) (a b c d : Value) : Fr (At1 g) w ((((w.setCell ⟨g, 0, none⟩ a).setCell ⟨g, 1, none⟩ b).setCell ⟨g, 2, none⟩ c).setCell ⟨g, 3, none⟩ d) := fr_set4 w g a b c d
def DoneS (d : Dp) (f : List UInt8 → Option Value) (N : Nat) (b : Bk) (E : List UInt8 → List Ev) (k : Nat) (g : List UInt8 → Option Rdr) (o : Od) (w : World) (e : Ending) (w' : World) : Prop :=
  ∃ f', e = .returned (doR b o).val ∧ DkS w' d f' (N + 12) (doB b o) (fun nm => E nm ++ newEv b o nm) k g ∧ Fr (d.wr f) w w' ∧ ∀ i, evB d.m f' i → evB d.m f i ∨ w.heap.size ≤ i
def DoRel (w1 : World) (m : Nat) (f : List UInt8 → Option Value) (N : Nat) (E : List UInt8 → List Ev) (n : Nat) (SE : Nat → List UInt8 → List Ev) (iv : Value) (wr : World) : Prop :=
  ∃ (j : Nat) (f' : List UInt8 → Option Value) (c : Nat), j ≤ n ∧ iv = .int .i64 j ∧ c ≤ N + j ∧ EvS wr m c f' (fun nm => E nm ++ SE j nm) ∧ Fr (evB m f) w1 wr ∧ ∀ i, evB m f' i → evB m f i ∨ w1.heap.size ≤ i
theorem cnt_le (f : List UInt8 → Option Value) (c : Nat) (nm : List UInt8) : cnt f c nm ≤ c + 1 := by unfold cnt; split <;> omega
section
variable {d : Dp} {f : List UInt8 → Option Value} {N : Nat} {b : Bk} {E : List UInt8 → List Ev} {k : Nat} {g : List UInt8 → Option Rdr}
/-- only the book has changed -/
theorem DkS.book {w w' : World} (h : DkS w d f N b E k g) {b' : Bk} (hb : BkS w' d.q b') (hf : Fr d.q.wr w w') : DkS w' d f N b' E k g := by
  obtain ⟨c, hc, hv⟩ := h.ev
  exact ⟨h.blk.fr hf (fun e => h.wr_p (.inl e)), hb, ⟨c, hc, hv.fr hf (fun i hi e => h.qe i (Pl.wr_all e) hi)⟩, h.rd.fr hf (fun e => h.wr_r (.inl e)), h.mr, h.qm, h.qr, h.tk⟩
/-- and its events -/
theorem DkS.evs {w w' : World} (h : DkS w d f N b E k g) {f' : List UInt8 → Option Value} {N' c' : Nat} {E' : List UInt8 → List Ev} (hv : EvS w' d.m c' f' E') (hc : c' ≤ N') (hf : Fr (evB d.m f) w w') (hl : ∀ nm, (E nm).length ≤ (E' nm).length) : DkS w' d f' N' b E' k g := by
  obtain ⟨c, _, hv0⟩ := h.ev
  exact ⟨h.blk.fr hf (fun e => h.wr_p (.inr e)), h.bk.fr hf (fun i hi e => h.qe i hi e), ⟨c', hc, hv⟩, h.rd.fr hf (fun e => h.wr_r (.inr e)), h.mr, h.qm, h.qr, fun nm r hr => ⟨(h.tk nm r hr).1, Nat.le_trans (h.tk nm r hr).2 (hl _)⟩⟩
theorem DkS.same {w : World} (h : DkS w d f N b E k g) {N' : Nat} {E' : List UInt8 → List Ev} (hN : N ≤ N') (he : ∀ nm, E nm = E' nm) : DkS w d f N' b E' k g := by
  have : E = E' := funext he
  subst this
  obtain ⟨c, hc, hv⟩ := h.ev
  exact ⟨h.blk, h.bk, ⟨c, Nat.le_trans hc hN, hv⟩, h.rd, h.mr, h.qm, h.qr, h.tk⟩
end
end Go.Proofs.YtjbeaoabhhaiiaaGreat

namespace Go.Proofs.YtjbeaoabhhaiiaaGreat
open Go.RowKit Go.My Go.Maps
set_option linter.unusedSimpArgs false
set_option linter.unusedVariables false
attribute [local go_sem ↓] Go.wp_at_zero Go.wp_at_succ

noncomputable def dorgs : { c : Code // regOf 11 Tryz.f6 = c } := ⟨_, by conv => lhs; whnf⟩
noncomputable def dorg : Code := dorgs.1
def EvsPost (w : World) (m c : Nat) (f : List UInt8 → Option Value) (E : List UInt8 → List Ev) (an : List UInt8) (e : Ev) (w4 : World) : Prop :=
  ∃ (f' : List UInt8 → Option Value) (c' : Nat), EvS w4 m c' f' (fun j => if j = an then E j ++ [e] else E j) ∧ c' ≤ c + 1 ∧ Fr (evB m f) w w4 ∧ ∀ i, evB m f' i → evB m f i ∨ w.heap.size ≤ i
set_option maxRecDepth 100000 in
set_option maxHeartbeats 4000000 in
theorem doev_region {w : World} {p m ob bo c : Nat} {f : List UInt8 → Option Value} {E : List UInt8 → List Ev} {an : List UInt8} {ah as_ al ocl osq okd : Int} {v0 v2 : Value} (hp : Blk w p 75 #[v0, .map (some m), v2]) (hx : Blk w bo 80 #[.string ⟨an.toArray⟩, .int .i64 ah, .int .i64 as_, .int .i64 al]) {cs : Array Value} {ot : TypeId} (hob : Blk w ob ot cs) (hobt : 71 ≠ ot) (hc0 : cs[0]? = some (.int .i64 ocl)) (hc1 : cs[1]? = some (.int .i64 osq)) (hc2 : cs[2]? = some (.int .i64 okd))
    (hev : EvS w m c f E) (hc : c < maxLen) (hnm : an.length ≤ maxLen) (hnE : (E an).length ≤ 1000000) {sl1 sl2 sl4 sl5 sl6 sl7 sl9 sl10 sl11 sl12 sl13 sl14 sl15 sl16 sl17 sl18 sl19 sl20 sl21 sl22 sl23 sl24 sl25 sl26 sl27 sl28 sl29 sl30 sl31 sl32 sl33 sl34 sl35 sl36 sl37 sl38 sl39 sl40 sl41 sl42 sl43 sl44 sl45 sl46 sl47 sl48 sl49 sl50 sl51 sl52 sl53 sl54 sl55 sl56 sl57 sl58 sl59 sl60 sl61 sl62 sl63 : Value} {Q : Exit → Act → World → Prop}
    (hQ : ∀ (wl38 wl39 wl40 wl41 wl42 wl43 wl44 wl45 wl46 wl47 wl48 wl49 wl50 wl51 wl52 wl53 wl54 wl55 wl56 wl57 wl58 wl59 wl60 wl61 : Value) (w4 : World), EvsPost w m c f E an ⟨ocl, osq, okd, ah, as_⟩ w4 → Q .normal ⟨(.pointer (some ⟨p, 0, none⟩) :: sl1 :: sl2 :: .pointer (some ⟨ob, 0, none⟩) :: sl4 :: sl5 :: sl6 :: sl7 :: .pointer (some ⟨bo, 0, none⟩) :: sl9 :: sl10 :: sl11 :: sl12 :: sl13 :: sl14 :: sl15 :: sl16 :: sl17 :: sl18 :: sl19 :: sl20 :: sl21 :: sl22 :: sl23 :: sl24 :: sl25 :: sl26 :: sl27 :: sl28 :: sl29 :: sl30 :: sl31 :: sl32 :: sl33 :: sl34 :: sl35 :: sl36 :: sl37 :: wl38 :: wl39 :: wl40 :: wl41 :: wl42 :: wl43 :: wl44 :: wl45 :: wl46 :: wl47 :: wl48 :: wl49 :: wl50 :: wl51 :: wl52 :: wl53 :: wl54 :: wl55 :: wl56 :: wl57 :: wl58 :: wl59 :: wl60 :: wl61 :: sl62 :: sl63 :: []).toArray, []⟩ w4) :
    Code.wp Tryz.prog dorg Q ⟨(.pointer (some ⟨p, 0, none⟩) :: sl1 :: sl2 :: .pointer (some ⟨ob, 0, none⟩) :: sl4 :: sl5 :: sl6 :: sl7 :: .pointer (some ⟨bo, 0, none⟩) :: sl9 :: sl10 :: sl11 :: sl12 :: sl13 :: sl14 :: sl15 :: sl16 :: sl17 :: sl18 :: sl19 :: sl20 :: sl21 :: sl22 :: sl23 :: sl24 :: sl25 :: sl26 :: sl27 :: sl28 :: sl29 :: sl30 :: sl31 :: sl32 :: sl33 :: sl34 :: sl35 :: sl36 :: sl37 :: sl38 :: sl39 :: sl40 :: sl41 :: sl42 :: sl43 :: sl44 :: sl45 :: sl46 :: sl47 :: sl48 :: sl49 :: sl50 :: sl51 :: sl52 :: sl53 :: sl54 :: sl55 :: sl56 :: sl57 :: sl58 :: sl59 :: sl60 :: sl61 :: sl62 :: sl63 :: []).toArray, []⟩ w := by
  conv => arg 2; whnf
  have HQ : Hid _ := hQ
  clear hQ
  conv => arg 2; whnf
  have HP := Lib.hid hp
  have HX := Lib.hid hx
  have HEV := Lib.hid hev
  have hsl := hev.sl an
  obtain ⟨A1, c1, hA, -, -⟩ := hsl.form
  have hlk : ∀ W, Fr No w W → (Instr.lookup 72 (.map (some m)) (.string ⟨an.toArray⟩) false).run Tryz.prog W = .ok (slOf f an) W := fun W hW => (hev.noF hW).look ⟨an.toArray⟩ hnm
  have hfe : Fr No w (w.alloc (.cells #[.int .i64 ocl, .int .i64 osq, .int .i64 okd, .int .i64 ah, .int .i64 as_] 71)).drew := Fr.drew ((Fr.refl No w).alloc _)
  have hrunA := hlk _ ((Fr.refl No w).drew)
  have hrunB := hlk _ hfe
  have hsv := fun k hk => (hev.slB an k hk).2
  obtain ⟨L, hL⟩ : ∃ L, L = E an := ⟨_, rfl⟩
  have HLL := Lib.hid hL
  rw [← hL] at hA hsl hnE
  clear hL
  rw [hA] at hrunA hrunB hsl hsv
  have HEV2 := Lib.hid (hev.noF hfe)
  have HOW2 := Lib.hid (hsl.fr hfe (fun _ _ h => h))
  have hvm : (Value.slice A1 L.length c1).ownBlock ≠ some m := fun e => hsv _ e rfl
  have HDE := Lib.hid (hp.fr hfe (fun h => h))
  have HXE := Lib.hid (hx.fr hfe (fun h => h))
  have d1 := hp.cell 1
  have x0 := hx.cell 0
  have x1 := hx.cell 1
  have x2 := hx.cell 2
  simp only [List.getElem?_toArray, List.getElem?_cons_zero, List.getElem?_cons_succ] at d1 x0 x1 x2
  have hdpl := hp.lt
  have hbol := hx.lt
  have hobl : ob < w.heap.size := hob.lt
  have HA := Lib.hid hA
  have HFE := Lib.hid hfe
  have HXX : Hid (∀ W, Fr (evB m f) w W → Fr (evB m f) w W ∧ W.cell? ⟨p, 1, none⟩ = some (.map (some m)) ∧ W.cell? ⟨bo, 0, none⟩ = some (.string ⟨an.toArray⟩) ∧ W.cell? ⟨bo, 1, none⟩ = some (.int .i64 ah) ∧ W.cell? ⟨bo, 2, none⟩ = some (.int .i64 as_) ∧ W.cell? ⟨ob, 0, none⟩ = some (.int .i64 ocl) ∧ W.cell? ⟨ob, 1, none⟩ = some (.int .i64 osq) ∧ W.cell? ⟨ob, 2, none⟩ = some (.int .i64 okd)) := fun W hW => by
    have h1 := hp.fr hW (hev.far hp (by decide))
    have h2 := hx.fr hW (hev.far hx (by decide))
    have h3 := hob.fr hW (hev.far hob (fun e => hobt e.symm))
    exact ⟨hW, h1.cell 1, h2.cell 0, h2.cell 1, h2.cell 2, (h3.cell 0).trans hc0, (h3.cell 1).trans hc1, (h3.cell 2).trans hc2⟩
  have HSB : Hid (∀ k, (Value.slice A1 L.length c1).ownBlock = some k → evB m f k) := fun k hk => (hev.slB an k (by rw [hA]; exact hk)).1
  have hk0 : Fr (evB m f) w w.drew := (Fr.refl _ w).drew
  have hk1 : Fr (evB m f) w (w.alloc (.cells #[.int .i64 ocl, .int .i64 osq, .int .i64 okd, .int .i64 ah, .int .i64 as_] 71)).drew := ((Fr.refl _ w).alloc _).drew
  clear hlk hfe hsl hsv hA hp hx hev hob d1 x0 x1 x2
  go_region_held3 (fun W => Fr (evB m f) w W ∧ W.cell? ⟨p, 1, none⟩ = some (.map (some m)) ∧ W.cell? ⟨bo, 0, none⟩ = some (.string ⟨an.toArray⟩) ∧ W.cell? ⟨bo, 1, none⟩ = some (.int .i64 ah) ∧ W.cell? ⟨bo, 2, none⟩ = some (.int .i64 as_) ∧ W.cell? ⟨ob, 0, none⟩ = some (.int .i64 ocl) ∧ W.cell? ⟨ob, 1, none⟩ = some (.int .i64 osq) ∧ W.cell? ⟨ob, 2, none⟩ = some (.int .i64 okd))
    (first
      | (with_reducible refine HXX.out _ ?_; with_reducible assumption)
      | (with_reducible refine HXX.out _ (Fr.drew (Fr.alloc ?_ _)); with_reducible first | assumption | exact Fr.refl _ w)
      | (with_reducible refine HXX.out _ (Fr.alloc ?_ _); with_reducible first | assumption | exact Fr.refl _ w)
      | (refine HXX.out _ ?_; assumption))
    (first
      | (refine step_app_ev rfl (.tmp 50) (.tmp 60) rfl HOW2.out rfl (heap_alloc_new w _) (by simp [Value.oneCell']) rfl hnE HEV2.out.tab hc ⟨an.toArray⟩ hnm hvm ?_; intro v3 w3 w4 hrun4 hown4 hf4 hl4 ht4 hf4'; have hk3 : Fr (evB m f) w w3 := hk1.trans (hf4.mono fun i _ h => HSB.out i h); have hk4 : Fr (evB m f) w w4 := hk3.trans (hf4'.mono fun _ _ h => .inl h)))
  all_goals
    have HAPP := HEV2.out.app an ⟨ocl, osq, okd, ah, as_⟩ (by rw [← HLL.out]; exact hown4) (by rw [HA.out]; exact hf4) (by rw [HA.out]; exact hl4) ht4 hf4'
    refine HQ.out _ _ _ _ _ _ _ _ _ _ _ _ _ _ _ _ _ _ _ _ _ _ _ _ _ ⟨_, _, HAPP.1, cnt_le f c an, (HFE.out.mono fun _ _ h => False.elim h).trans HAPP.2.1, fun i hi => ?_⟩
    rcases HAPP.2.2 i hi with h1 | h1
    · exact .inl h1
    · exact .inr (Nat.le_trans HFE.out.size h1)
end Go.Proofs.YtjbeaoabhhaiiaaGreat

namespace Go.Proofs.YtjbeaoabhhaiiaaGreat
open Go.RowKit Go.My Go.Maps
set_option linter.unusedSimpArgs false
set_option linter.unusedVariables false
attribute [local go_sem ↓] Go.wp_at_zero Go.wp_at_succ
section
variable {d : Dp} {f : List UInt8 → Option Value} {N : Nat} {b : Bk} {E : List UInt8 → List Ev} {k : Nat} {g : List UInt8 → Option Rdr}
set_option maxRecDepth 100000 in
set_option maxHeartbeats 4000000 in
theorem ddo_any (F : Nat → Prop) (o : Od) (v : Value) (w : World) (h : DkS w d f N b E k g) (ho : o.ok) (hv : LgS w F v o.legs) (hF : ∀ i, F i → i < w.heap.size ∧ ¬ d.q.all i) (hL : o.legs.length ≤ 100000) (hN : N ≤ 1000000) (hE : ∀ nm, (E nm).length ≤ 999999) :
    Calls Tryz.prog 6 #[.pointer (some ⟨d.p, 0, none⟩), o.val v] w (DoneS d f N b E k g o w) := by
  have HD := Lib.hid h
  have HDO : Hid (∀ W, Fr No w W → Calls Tryz.prog 25 #[.pointer (some ⟨d.q.p, 0, none⟩), o.val v] W (DidB d.q (doR b o) (doB b o) W)) := fun W hW =>
    do_any F d.q b o v W (h.bk.no hW) ho (hv.no hW) (fun i hi => ⟨Nat.lt_of_lt_of_le (hF i hi).1 hW.size, fun e => (hF i hi).2 (.inr (.inr (.inl e)))⟩)
  have HTC : Hid (∀ W, Fr d.q.wr w W → Calls Tryz.prog 26 #[o.val v] W (RetOwn W 9 1 none (touchL o).length (ts (touchL o)))) := fun W hW =>
    touches_any F o v W (hv.fr12 hW (fun i hi _ e => (hF i hi).2 (Pl.wr_all e))) hL
  have HTL : Hid ((touchL o).length ≤ 1000000) := by
    have : (touchL o).length ≤ 2 + o.legs.length := by
      unfold touchL
      refine Nat.le_trans (upOf_length _) ?_
      unfold namesO
      refine Nat.le_trans (List.length_filter_le _ _) ?_
      rw [allN_length o _ (Nat.le_refl _)]
      exact Nat.le_refl _
    show _ ≤ _
    omega
  have HBI : Hid (BkI (doB b o)) := do_inv h.bk.inv ho
  have HSL : Hid ((doB b o).S.length ≤ 12) := HBI.out.st.kp.inv.len
  have HOK : Hid ((doR b o).err = 0 → ∀ nm, stepEv (doB b o).S o (doB b o).S.length nm = newEv b o nm) := fun e nm => stepEv_all e nm
  have HNO : Hid ((doR b o).err ≠ 0 → ∀ nm, newEv b o nm = []) := fun e nm => if_neg fun h => e h.1
  have HST : Hid (∀ j (hj : j < (doB b o).S.length), ((doB b o).S[j].name ∈ touchL o → ∀ nm, (if nm = (doB b o).S[j].name then (E nm ++ stepEv (doB b o).S o j nm) ++ [⟨o.cl, o.sq, o.kd, (doB b o).S[j].hv, (doB b o).S[j].st⟩] else E nm ++ stepEv (doB b o).S o j nm) = E nm ++ stepEv (doB b o).S o (j + 1) nm) ∧ ((doB b o).S[j].name ∉ touchL o → ∀ nm, E nm ++ stepEv (doB b o).S o j nm = E nm ++ stepEv (doB b o).S o (j + 1) nm)) := fun j hj =>
    ⟨fun ht nm => stepEv_put HBI.out.st.kp.inv.rise hj ht E nm, fun ht nm => by rw [stepEv_skip HBI.out.st.kp.inv.rise hj ht nm]⟩
  have HSE : Hid (∀ j nm, (stepEv (doB b o).S o j nm).length ≤ 1) := fun j nm => stepEv_len _ _ _ _
  have HS0 : Hid (∀ nm, stepEv (doB b o).S o 0 nm = []) := fun nm => rfl
  have HNS : Hid (∀ j (hj : j < (doB b o).S.length), (doB b o).S[j].name.length ≤ maxLen) := fun j hj => by
    have := HBI.out.st.kp.inv.nm _ (List.getElem_mem hj)
    unfold maxLen
    omega
  have HLT := Lib.hid h.lt
  have HQE := Lib.hid h.qe
  obtain ⟨c0, hc0, hev⟩ := h.ev
  obtain ⟨vB, vd, rfl, -, -⟩ := hv.form
  have HDONE : Hid (∀ f' w' re rh rs rn, doR b o = ⟨re, rh, rs, rn⟩ → DkS w' d f' (N + 12) (doB b o) (fun nm => E nm ++ newEv b o nm) k g → Fr (d.wr f) w w' → (∀ i, evB d.m f' i → evB d.m f i ∨ w.heap.size ≤ i) → DoneS d f N b E k g o w (.returned (.agg #[.int .i64 re, .int .i64 rh, .int .i64 rs, .int .i64 rn])) w') := fun f' w' re rh rs rn e h1 h2 h3 => ⟨f', by rw [e]; rfl, h1, h2, h3⟩
  obtain ⟨P, hP⟩ : ∃ P, P = DoneS d f N b E k g o w := ⟨_, rfl⟩
  rw [← hP] at HDONE ⊢
  clear hP
  generalize newEv b o = NE at *
  generalize stepEv (doB b o).S o = SE at *
  generalize doR b o = R at *
  generalize doB b o = b' at *
  generalize touchL o = T at *
  obtain ⟨re, rh, rs, rn⟩ := R
  simp only at HOK HNO
  generalize o.legs.length = vn at *
  clear hv
  obtain ⟨ocl, osq, okd, oac, ope, osm, olg, opr, ohd, ont⟩ := o
  unfold Od.val Od.cs at *
  simp only at HDO HTC HST ⊢
  have HDX : Hid (∀ W, Fr No w W → Calls Tryz.prog 25 #[.pointer (some ⟨d.q.p, 0, none⟩), .agg #[.int .i64 ocl, .int .i64 osq, .int .i64 okd, .string oac, .string ope, .int .i64 osm, .slice vB vn vd, .int .i64 opr, .int .i64 ohd, .string ont]] W fun e w' => e = .returned (.agg #[.int .i64 re, .int .i64 rh, .int .i64 rs, .int .i64 rn]) ∧ BkS w' d.q b' ∧ Fr d.q.wr W w') := fun W h => HDO.out W h
  clear HDO
  have hbo := Blk.new w 35 #[.int .i64 ocl, .int .i64 osq, .int .i64 okd, .string oac, .string ope, .int .i64 osm, .slice vB vn vd, .int .i64 opr, .int .i64 ohd, .string ont]
  have hbr := Blk.new (w.alloc (.cells #[.int .i64 ocl, .int .i64 osq, .int .i64 okd, .string oac, .string ope, .int .i64 osm, .slice vB vn vd, .int .i64 opr, .int .i64 ohd, .string ont] 35)) 41 #[.int .i64 0, .int .i64 0, .int .i64 0, .int .i64 0]
  rw [World.size_alloc] at hbr
  have hbo := hbo.alloc (.cells #[.int .i64 0, .int .i64 0, .int .i64 0, .int .i64 0] 41)
  have hf2 : Fr No w ((w.alloc (.cells #[.int .i64 ocl, .int .i64 osq, .int .i64 okd, .string oac, .string ope, .int .i64 osm, .slice vB vn vd, .int .i64 opr, .int .i64 ohd, .string ont] 35)).alloc (.cells #[.int .i64 0, .int .i64 0, .int .i64 0, .int .i64 0] 41)) := ((Fr.refl _ _).alloc _).alloc _
  have HN := Lib.hid hN
  clear h ho hF hL hN
  go_enter Tryz.func6, Tryz.ntmps6
  go_upto_region 3 with (fail)
  have hw2s : ((w.alloc (.cells #[.int .i64 ocl, .int .i64 osq, .int .i64 okd, .string oac, .string ope, .int .i64 osm, .slice vB vn vd, .int .i64 opr, .int .i64 ohd, .string ont] 35)).alloc (.cells #[.int .i64 0, .int .i64 0, .int .i64 0, .int .i64 0] 41)).heap.size = w.heap.size + 2 := by simp
  generalize (w.alloc (.cells #[.int .i64 ocl, .int .i64 osq, .int .i64 okd, .string oac, .string ope, .int .i64 osm, .slice vB vn vd, .int .i64 opr, .int .i64 ohd, .string ont] 35)).alloc (.cells #[.int .i64 0, .int .i64 0, .int .i64 0, .int .i64 0] 41) = w2 at *
  have HW2 := Lib.hid hw2s
  have HF2 := Lib.hid hf2
  have HBO := Lib.hid hbo
  have HBR := Lib.hid hbr
  have hfarq : ∀ i, w.heap.size ≤ i → ¬ d.q.wr i := fun i hi e => by
    have := HLT.out i (.inr (.inl (Pl.wr_all e)))
    omega
  have HFQ := Lib.hid hfarq
  have HX : Hid (∀ W, Fr d.q.wr w2 W → Fr d.q.wr w2 W ∧ W.cell? ⟨d.p, 0, none⟩ = some (.pointer (some ⟨d.q.p, 0, none⟩)) ∧ W.cell? ⟨w.heap.size, 0, none⟩ = some (.int .i64 ocl) ∧ W.cell? ⟨w.heap.size, 1, none⟩ = some (.int .i64 osq) ∧ W.cell? ⟨w.heap.size, 2, none⟩ = some (.int .i64 okd) ∧ W.cell? ⟨w.heap.size, 3, none⟩ = some (.string oac) ∧ W.cell? ⟨w.heap.size, 4, none⟩ = some (.string ope) ∧ W.cell? ⟨w.heap.size, 5, none⟩ = some (.int .i64 osm) ∧ W.cell? ⟨w.heap.size, 6, none⟩ = some (.slice vB vn vd) ∧ W.cell? ⟨w.heap.size, 7, none⟩ = some (.int .i64 opr) ∧ W.cell? ⟨w.heap.size, 8, none⟩ = some (.int .i64 ohd) ∧ W.cell? ⟨w.heap.size, 9, none⟩ = some (.string ont)) := fun W hW => by
    have h1 := (HD.out.no hf2).blk.fr hW (fun e => HD.out.wr_p (.inl e))
    have h2 := hbo.fr hW (hfarq _ (Nat.le_refl _))
    exact ⟨hW, h1.cell 0, h2.cell 0, h2.cell 1, h2.cell 2, h2.cell 3, h2.cell 4, h2.cell 5, h2.cell 6, h2.cell 7, h2.cell 8, h2.cell 9⟩
  have hk0 : Fr d.q.wr w2 w2.drew := (Fr.refl _ w2).drew
  clear hf2 hbo hbr hfarq hw2s
  go_region_held3 (fun W => Fr d.q.wr w2 W ∧ W.cell? ⟨d.p, 0, none⟩ = some (.pointer (some ⟨d.q.p, 0, none⟩)) ∧ W.cell? ⟨w.heap.size, 0, none⟩ = some (.int .i64 ocl) ∧ W.cell? ⟨w.heap.size, 1, none⟩ = some (.int .i64 osq) ∧ W.cell? ⟨w.heap.size, 2, none⟩ = some (.int .i64 okd) ∧ W.cell? ⟨w.heap.size, 3, none⟩ = some (.string oac) ∧ W.cell? ⟨w.heap.size, 4, none⟩ = some (.string ope) ∧ W.cell? ⟨w.heap.size, 5, none⟩ = some (.int .i64 osm) ∧ W.cell? ⟨w.heap.size, 6, none⟩ = some (.slice vB vn vd) ∧ W.cell? ⟨w.heap.size, 7, none⟩ = some (.int .i64 opr) ∧ W.cell? ⟨w.heap.size, 8, none⟩ = some (.int .i64 ohd) ∧ W.cell? ⟨w.heap.size, 9, none⟩ = some (.string ont))
    (first
      | (with_reducible refine HX.out _ ?_; with_reducible assumption)
      | (with_reducible refine HX.out _ (keep_set4 (by with_reducible assumption) (by first | with_reducible assumption | omega)))
      | (with_reducible refine HX.out _ (Fr.alloc ?_ _); with_reducible assumption)
      | (with_reducible refine HX.out _ (Fr.drew (Fr.alloc ?_ _)); with_reducible first | assumption | exact Fr.refl _ w2))
    (first
      | (go_at_call 25; (with_reducible refine (HDX.out _ ((HF2.out.alloc _).drew)).mono ?_); rintro e u1 ⟨rfl, hb1, hg⟩; have ka1 : Fr d.q.wr w2 u1 := Fr.trans ((Fr.refl _ w2).alloc _).drew hg; have hz1 := Blk.fr (Blk.new w2 41 #[.int .i64 0, .int .i64 0, .int .i64 0, .int .i64 0]).drew hg (HFQ.out _ (by have := HW2.out; omega)); clear hg; have y0 := hz1.cell 0; have y1 := hz1.cell 1; have y2 := hz1.cell 2; have y3 := hz1.cell 3; have z0 := hz1.frozen 0; have z1 := hz1.frozen 1; have z2 := hz1.frozen 2; have z3 := hz1.frozen 3; simp only [List.getElem?_toArray, List.getElem?_cons_zero, List.getElem?_cons_succ] at y0 y1 y2 y3)
      | (go_at_call 25; (with_reducible refine (HDX.out _ HF2.out.drew).mono ?_); rintro e u1 ⟨rfl, hb1, hg⟩; have ka1 : Fr d.q.wr w2 u1 := Fr.trans (Fr.refl _ w2).drew hg; clear hg))
  focus
    have hx : Blk (u1.alloc (.cells #[.int .i64 re, .int .i64 rh, .int .i64 rs, .int .i64 rn] 41)) u1.heap.size 41 #[.int .i64 re, .int .i64 rh, .int .i64 rs, .int .i64 rn] := Blk.new u1 41 _
    have HQ : Hid (BkS (u1.alloc (.cells #[.int .i64 re, .int .i64 rh, .int .i64 rs, .int .i64 rn] 41)) d.q b' ∧ Fr d.q.wr w2 (u1.alloc (.cells #[.int .i64 re, .int .i64 rh, .int .i64 rs, .int .i64 rn] 41)) ∧ Blk (u1.alloc (.cells #[.int .i64 re, .int .i64 rh, .int .i64 rs, .int .i64 rn] 41)) u1.heap.size 41 #[.int .i64 re, .int .i64 rh, .int .i64 rs, .int .i64 rn] ∧ w2.heap.size ≤ u1.heap.size) := ⟨hb1.no ((Fr.refl _ _).alloc _), ka1.alloc _, hx, ka1.size⟩
    clear hx hb1 ka1 hk0
    generalize u1.alloc (.cells #[.int .i64 re, .int .i64 rh, .int .i64 rs, .int .i64 rn] 41) = qf at *
    generalize u1.heap.size = gb at *
  rotate_left
  focus
    have hx := blk_set4 hz1 (.int .i64 re) (.int .i64 rh) (.int .i64 rs) (.int .i64 rn)
    have hfx := fr_set4 u1 w2.heap.size (.int .i64 re) (.int .i64 rh) (.int .i64 rs) (.int .i64 rn)
    have HQ : Hid (BkS ((((u1.setCell ⟨w2.heap.size, 0, none⟩ (.int .i64 re)).setCell ⟨w2.heap.size, 1, none⟩ (.int .i64 rh)).setCell ⟨w2.heap.size, 2, none⟩ (.int .i64 rs)).setCell ⟨w2.heap.size, 3, none⟩ (.int .i64 rn)) d.q b' ∧ Fr d.q.wr w2 ((((u1.setCell ⟨w2.heap.size, 0, none⟩ (.int .i64 re)).setCell ⟨w2.heap.size, 1, none⟩ (.int .i64 rh)).setCell ⟨w2.heap.size, 2, none⟩ (.int .i64 rs)).setCell ⟨w2.heap.size, 3, none⟩ (.int .i64 rn)) ∧ Blk ((((u1.setCell ⟨w2.heap.size, 0, none⟩ (.int .i64 re)).setCell ⟨w2.heap.size, 1, none⟩ (.int .i64 rh)).setCell ⟨w2.heap.size, 2, none⟩ (.int .i64 rs)).setCell ⟨w2.heap.size, 3, none⟩ (.int .i64 rn)) w2.heap.size 41 #[.int .i64 re, .int .i64 rh, .int .i64 rs, .int .i64 rn] ∧ w2.heap.size ≤ w2.heap.size) := by
      refine ⟨hb1.fr hfx (fun i hi e => ?_), ka1.trans' hfx (fun i hi hlt => ?_), hx, Nat.le_refl _⟩
      · have h1 := HLT.out i (.inr (.inl hi))
        have h2 := HW2.out
        have : i = w2.heap.size := e
        omega
      · have : i = w2.heap.size := hi
        omega
    clear hx hfx hb1 ka1 hk0 hz1 y0 y1 y2 y3 z0 z1 z2 z3
    generalize ((((u1.setCell ⟨w2.heap.size, 0, none⟩ (.int .i64 re)).setCell ⟨w2.heap.size, 1, none⟩ (.int .i64 rh)).setCell ⟨w2.heap.size, 2, none⟩ (.int .i64 rs)).setCell ⟨w2.heap.size, 3, none⟩ (.int .i64 rn)) = qf at *
    obtain ⟨gb, hgb⟩ : ∃ gb, gb = w2.heap.size := ⟨_, rfl⟩
    have HQ : Hid (BkS qf d.q b' ∧ Fr d.q.wr w2 qf ∧ Blk qf gb 41 #[.int .i64 re, .int .i64 rh, .int .i64 rs, .int .i64 rn] ∧ w2.heap.size ≤ gb) := by rw [hgb]; exact HQ.out
    rw [← hgb]
    clear hgb
  all_goals
    have HBK := Lib.hid HQ.out.1
    have HFQf := Lib.hid HQ.out.2.1
    have HBG := Lib.hid HQ.out.2.2.1
    have HGL : Hid (w2.heap.size ≤ gb) := HQ.out.2.2.2
    have HBOq := Lib.hid (HBO.out.fr HFQf.out (HFQ.out _ (Nat.le_refl _)))
    have HBRq := Lib.hid (HBR.out.fr HFQf.out (HFQ.out _ (by omega)))
    have HDK := Lib.hid ((HD.out.no HF2.out).book HBK.out HFQf.out)
    have HFW : Hid (Fr d.q.wr w qf) := (HF2.out.mono fun _ _ h => False.elim h).trans HFQf.out
    clear HQ HX HBO HBR HDX
    have y0 := HBG.out.cell 0
    have y1 := HBG.out.cell 1
    have y2 := HBG.out.cell 2
    have y3 := HBG.out.cell 3
    have r0 := HBRq.out.cell 0
    have r1 := HBRq.out.cell 1
    have r2 := HBRq.out.cell 2
    have r3 := HBRq.out.cell 3
    have f0 := HBRq.out.frozen 0
    have f1 := HBRq.out.frozen 1
    have f2 := HBRq.out.frozen 2
    have f3 := HBRq.out.frozen 3
    simp only [List.getElem?_toArray, List.getElem?_cons_zero, List.getElem?_cons_succ] at y0 y1 y2 y3 r0 r1 r2 r3
    by_cases h0 : re = 0
    rotate_left
    · have hne : (re != 0) = true := by rw [bne_iff_ne]; exact h0
      have hd := blk_set4 HBRq.out (.int .i64 re) (.int .i64 rh) (.int .i64 rs) (.int .i64 rn)
      have hfx := fr_set4 qf (w.heap.size + 1) (.int .i64 re) (.int .i64 rh) (.int .i64 rs) (.int .i64 rn)
      have HFIN := Lib.hid (HDONE.out f _ re rh rs rn rfl ((HDK.out.fr hfx (fun i hi e => by
        have h1 := HLT.out i hi
        have : i = w.heap.size + 1 := e
        omega)).same (N' := N + 12) (by omega) (fun nm => by rw [HNO.out h0 nm, List.append_nil])) ((HFW.out.mono fun _ _ h => .inl h).trans' hfx (fun i hi hlt => by
        have : i = w.heap.size + 1 := hi
        omega)) (fun i hi => .inl hi))
      have HDD := Lib.hid hd
      clear hd hfx
      go_wp2
      have hd := HDD.out
      have d0 := hd.cell 0
      have d1 := hd.cell 1
      have d2 := hd.cell 2
      have d3 := hd.cell 3
      simp only [List.getElem?_toArray, List.getElem?_cons_zero, List.getElem?_cons_succ] at d0 d1 d2 d3
      refine bodyPost_ret (v := .agg #[.int .i64 re, .int .i64 rh, .int .i64 rs, .int .i64 rn]) (by simp [results, Tryz.results6, go_sem, d0, d1, d2, d3]) rfl ?_
      exact HFIN.out
    · subst h0
      have HOK2 := Lib.hid (HOK.out rfl)
      have o0 := HBOq.out.cell 0
      have o1 := HBOq.out.cell 1
      have o2 := HBOq.out.cell 2
      have o3 := HBOq.out.cell 3
      have o4 := HBOq.out.cell 4
      have o5 := HBOq.out.cell 5
      have o6 := HBOq.out.cell 6
      have o7 := HBOq.out.cell 7
      have o8 := HBOq.out.cell 8
      have o9 := HBOq.out.cell 9
      simp only [List.getElem?_toArray, List.getElem?_cons_zero, List.getElem?_cons_succ] at o0 o1 o2 o3 o4 o5 o6 o7 o8 o9
      clear HOK HNO
      go_wp2_with fail
      (with_reducible refine (HTC.out _ HFW.out).mono ?_)
      rintro e w6 ⟨v6, rfl, ho6, hf6', hn6⟩
      obtain ⟨A6, c6, rfl, -, -⟩ := ho6.form
      have hf6 := fr_at_none hf6'
      have p0 := (HDK.out.no hf6).blk.cell 0
      simp only [List.getElem?_toArray, List.getElem?_cons_zero, List.getElem?_cons_succ] at p0
      have HF6 := Lib.hid hf6
      have HO6 := Lib.hid ho6
      clear ho6 hf6' hn6 hf6 o0 o1 o2 o3 o4 o5 o6 o7 o8 o9 HTC
      go_wp2_with fail
      (with_reducible refine (baccts_any d.q b' _ (HBK.out.no HF6.out)).mono ?_)
      rintro e w7 ⟨v7, rfl, ho7, hf7', hn7⟩
      obtain ⟨A7, c7, rfl, -, -⟩ := ho7.form
      have hf7 := fr_at_none hf7'
      have HF7 : Hid (Fr No qf w7) := HF6.out.trans hf7
      have HO7 := Lib.hid ho7
      have HT7 := Lib.hid (HO6.out.fr hf7 (fun _ _ h => h))
      have HEV7 : Hid (EvS w7 d.m c0 f E) := by
        have h1 := hev.noF HF2.out
        have h2 := h1.fr HFQf.out (fun i hi e => HQE.out i (Pl.wr_all e) hi)
        exact h2.noF HF7.out
      have HBO7 := Lib.hid (HBOq.out.fr HF7.out (fun h => h))
      have HBR7 := Lib.hid (HBRq.out.fr HF7.out (fun h => h))
      have HBG7 := Lib.hid (HBG.out.fr HF7.out (fun h => h))
      have HDK7 := Lib.hid (HDK.out.no HF7.out)
      have HFW7 : Hid (Fr d.q.wr w w7) := HFW.out.trans (HF7.out.mono fun _ _ h => False.elim h)
      have hn7l := HSL.out
      clear ho7 hf7' hf7 hn7 HO6 HF6 HBK HFQf HBG HBOq HBRq HDK HFW HF7 p0 y0 y1 y2 y3 r0 r1 r2 r3 f0 f1 f2 f3
      go_wp2
      go_loopw [30] (fun iv wr => DoRel w7 d.m f N E b'.S.length SE iv wr) (fun iv _ => b'.S.length - (intOf iv).toNat)
      case atStart => exact ⟨0, f, c0, Nat.zero_le _, rfl, by omega, HEV7.out.congr (fun nm => by rw [HS0.out nm, List.append_nil]), Fr.refl _ _, fun i hi => .inl hi⟩
      case round =>
        obtain ⟨j, f', c, hj, rfl, hc, hevj, hfr, hsub⟩ := hrel
        by_cases hlt : j < b'.S.length
        · obtain ⟨ad, rfl, _, p0, p1, p2, p3⟩ := acs_at ((HO7.out.fr hfr (HEV7.out.farO HO7.out (by decide))).rd) j hlt
          have htr := (HT7.out.fr hfr (HEV7.out.farO HT7.out (by decide))).rd
          have hdk := HDK7.out.blk.fr hfr (HEV7.out.far HDK7.out.blk (by decide))
          have hbo := HBO7.out.fr hfr (HEV7.out.far HBO7.out (by decide))
          have hst := HST.out j hlt
          have hnm := HNS.out j hlt
          have hse := HSE.out j
          generalize b'.S[j] = a at *
          obtain ⟨an, ah, as_, al⟩ := a
          simp only at p0 p1 p2 p3 hst hnm
          have hbx := Blk.new wr 80 #[.string ⟨an.toArray⟩, .int .i64 ah, .int .i64 as_, .int .i64 al]
          have hevl := hevj.noF ((Fr.refl No wr).alloc (.cells #[.string ⟨an.toArray⟩, .int .i64 ah, .int .i64 as_, .int .i64 al] 80))
          have hdl := hdk.alloc (.cells #[.string ⟨an.toArray⟩, .int .i64 ah, .int .i64 as_, .int .i64 al] 80)
          have hol := hbo.alloc (.cells #[.string ⟨an.toArray⟩, .int .i64 ah, .int .i64 as_, .int .i64 al] 80)
          have htl := htr.fr (by decide : 0 < 1) ((Fr.refl No wr).alloc (.cells #[.string ⟨an.toArray⟩, .int .i64 ah, .int .i64 as_, .int .i64 al] 80)) (fun _ _ _ h => h)
          have HCT := Lib.hid (containsT_any _ A6 c6 T an _ htl HTL.out)
          have hfl : Fr (evB d.m f) w7 (wr.alloc (.cells #[.string ⟨an.toArray⟩, .int .i64 ah, .int .i64 as_, .int .i64 al] 80)) := hfr.alloc _
          have HBX := Lib.hid hbx
          have HEVL := Lib.hid hevl
          have HDL := Lib.hid hdl
          have HOL := Lib.hid hol
          have HFL := Lib.hid hfl
          have HSUB := Lib.hid hsub
          have HC := Lib.hid hc
          have x0 := hbx.cell 0
          simp only [List.getElem?_toArray, List.getElem?_cons_zero, List.getElem?_cons_succ] at x0
          clear hbx hevl hdl hol hfl hsub hdk hbo htr htl hevj hfr hc
          by_cases hmem : an ∈ T
          · have HST2 := Lib.hid (hst.1 hmem)
            rw [decide_eq_true hmem] at HCT
            clear hst hmem
            go_wp2_with fail
            refine HCT.out.mono ?_
            rintro e wl ⟨rfl, rfl⟩
            clear HCT x0
            go_upto_region 11 with (fail)
            have hnE : (E an ++ SE j an).length ≤ 1000000 := by
              rw [List.length_append]
              have h1 := hE an
              have h2 := hse an
              omega
            have hcm : c < maxLen := by have h1 := HC.out; have h2 := HN.out; have h3 := HSL.out; unfold maxLen; omega
            refine doev_region HDL.out HBX.out HOL.out (by decide) rfl rfl rfl HEVL.out hcm hnm hnE ?_
            rintro wl38 wl39 wl40 wl41 wl42 wl43 wl44 wl45 wl46 wl47 wl48 wl49 wl50 wl51 wl52 wl53 wl54 wl55 wl56 wl57 wl58 wl59 wl60 wl61 w4 ⟨f4, c4, hev4, hc4, hf4, hs4⟩
            have HEV4 := Lib.hid hev4
            have HF4 := Lib.hid hf4
            have HS4 := Lib.hid hs4
            clear hev4 hf4 hs4
            go_wp2
            go_roundw
            case rel =>
              refine ⟨j + 1, f4, c4, by omega, by go_num, by have h1 := HC.out; omega, HEV4.out.congr HST2.out, HFL.out.trans' HF4.out (fun i hi hlt => ?_), fun i hi => ?_⟩
              · rcases HSUB.out i hi with h1 | h1
                · exact h1
                · omega
              · rcases HS4.out i hi with h1 | h1
                · exact HSUB.out i h1
                · exact .inr (Nat.le_trans HFL.out.size h1)
            case measure => simp [intOf]; omega
          · have HST2 := Lib.hid (hst.2 hmem)
            rw [decide_eq_false hmem] at HCT
            clear hst hmem
            go_wp2_with fail
            refine HCT.out.mono ?_
            rintro e wl ⟨rfl, rfl⟩
            clear HCT x0
            go_wp2
            go_roundw
            case rel => exact ⟨j + 1, f', c, by omega, by go_num, by have := HC.out; omega, HEVL.out.congr HST2.out, HFL.out, HSUB.out⟩
            case measure => simp [intOf]; omega
        · obtain rfl : j = b'.S.length := by omega
          have hbr := HBR7.out.fr hfr (HEV7.out.far HBR7.out (by decide))
          have hbg := HBG7.out.fr hfr (HEV7.out.far HBG7.out (by decide))
          have y0 := hbg.cell 0
          have y1 := hbg.cell 1
          have y2 := hbg.cell 2
          have y3 := hbg.cell 3
          have r0 := hbr.cell 0
          have r1 := hbr.cell 1
          have r2 := hbr.cell 2
          have r3 := hbr.cell 3
          have f0 := hbr.frozen 0
          have f1 := hbr.frozen 1
          have f2 := hbr.frozen 2
          have f3 := hbr.frozen 3
          simp only [List.getElem?_toArray, List.getElem?_cons_zero, List.getElem?_cons_succ] at y0 y1 y2 y3 r0 r1 r2 r3
          have hd := blk_set4 hbr (.int .i64 0) (.int .i64 rh) (.int .i64 rs) (.int .i64 rn)
          have hfx := fr_set4 wr (w.heap.size + 1) (.int .i64 0) (.int .i64 rh) (.int .i64 rs) (.int .i64 rn)
          have hfwr : Fr (d.wr f) w wr := (HFW7.out.mono fun _ _ h => .inl h).trans (hfr.mono fun _ _ h => .inr h)
          have hs7 := HFW7.out.size
          have hlw : w.heap.size + 1 < wr.heap.size := hbr.lt
          have hdkr := HDK7.out.evs (N' := N + 12) hevj (by omega) hfr (fun nm => by rw [List.length_append]; omega)
          have hnew : ∀ i, evB d.m f' i → evB d.m f i ∨ w.heap.size + 2 ≤ i := fun i hi => by
            rcases hsub i hi with h1 | h1
            · exact .inl h1
            · have h2 := HBR7.out.lt
              exact .inr (by omega)
          have HFIN := Lib.hid (HDONE.out f' _ 0 rh rs rn rfl ((hdkr.fr hfx (fun i hi e => by
            have e : i = w.heap.size + 1 := e
            rcases hi with h1 | h1 | h1 | h1
            · have := HLT.out i (.inl h1); omega
            · have := HLT.out i (.inr (.inl h1)); omega
            · rcases hnew i h1 with h2 | h2
              · have := HLT.out i (.inr (.inr (.inl h2))); omega
              · omega
            · have := HLT.out i (.inr (.inr (.inr h1))); omega)).same (N' := N + 12) (Nat.le_refl _) (fun nm => by rw [HOK2.out nm])) (hfwr.trans' hfx (fun i hi hlt => by
            have : i = w.heap.size + 1 := hi
            omega)) (fun i hi => by
            rcases hnew i hi with h2 | h2
            · exact .inl h2
            · exact .inr (by omega)))
          have HDD := Lib.hid hd
          clear hd hfx hfwr hdkr hnew hevj hfr hsub hbr hbg
          go_wp2
          have hd := HDD.out
          have d0 := hd.cell 0
          have d1 := hd.cell 1
          have d2 := hd.cell 2
          have d3 := hd.cell 3
          simp only [List.getElem?_toArray, List.getElem?_cons_zero, List.getElem?_cons_succ] at d0 d1 d2 d3
          refine bodyPost_ret (v := .agg #[.int .i64 0, .int .i64 rh, .int .i64 rs, .int .i64 rn]) (by simp [results, Tryz.results6, go_sem, d0, d1, d2, d3]) rfl ?_
          exact HFIN.out
end
end Go.Proofs.YtjbeaoabhhaiiaaGreat

namespace Go.Proofs.YtjbeaoabhhaiiaaGreat
open Go.RowKit Go.My Go.Maps
set_option linter.unusedSimpArgs false
set_option linter.unusedVariables false
attribute [local go_sem ↓] Go.wp_at_zero Go.wp_at_succ

theorem Dp.new {w w1 : World} {d : Dp} {f f' : List UInt8 → Option Value} (h : ∀ i, d.all f i → w.heap.size ≤ i) (hs : w.heap.size ≤ w1.heap.size) (h2 : ∀ i, evB d.m f' i → evB d.m f i ∨ w1.heap.size ≤ i) : ∀ i, d.all f' i → w.heap.size ≤ i := fun i hi => by
  rcases hi with e | e | e | e
  · exact h i (.inl e)
  · exact h i (.inr (.inl e))
  · rcases h2 i e with h3 | h3
    · exact h i (.inr (.inr (.inl h3)))
    · omega
  · exact h i (.inr (.inr (.inr e)))
/-- a desk that has done the first k of some orders -/
def EsRel (w : World) (d : Dp) (l : List Od) (iv : Value) (wr : World) : Prop :=
  ∃ (j : Nat) (f : List UInt8 → Option Value), j ≤ l.length ∧ iv = .int .i64 j ∧ DkS wr d f (12 * j) (foldB bk0 (l.take j)) (evsL bk0 (l.take j)) 0 noRd ∧ Fr No w wr ∧ ∀ i, d.all f i → w.heap.size ≤ i
theorem evs_take_next (b : Bk) (l : List Od) (k : Nat) (hk : k < l.length) (nm : List UInt8) : evsL b (l.take (k + 1)) nm = evsL b (l.take k) nm ++ newEv (foldB b (l.take k)) l[k] nm := by
  rw [List.take_succ_eq_append_getElem hk]
  exact evsL_snoc _ _ _ _
theorem fold_take_next (b : Bk) (l : List Od) (k : Nat) (hk : k < l.length) : foldB b (l.take (k + 1)) = doB (foldB b (l.take k)) l[k] := by
  rw [List.take_succ_eq_append_getElem hk]
  exact foldB_append _ _ _
theorem ods_legs {w0 w : World} {F : Nat → Prop} {A : Option Addr} {l : List Od} (h : OdsS w0 w F A l) (hb : ∀ o ∈ l, o.legs.length ≤ 100000) (k : Nat) (hk : k < l.length) : l[k].legs.length ≤ 100000 := hb _ (List.getElem_mem hk)
set_option maxRecDepth 100000 in
set_option maxHeartbeats 4000000 in
theorem sevents_any (w0 w : World) (F : Nat → Prop) (A : Option Addr) (c : Nat) (l : List Od) (s : ByteArray) (hl : OdsS w0 w F A l) (hb0 : Below w0.heap.size w0 w) (hlc : l.length ≤ 1000) (hlg : ∀ o ∈ l, o.legs.length ≤ 100000) (hs : s.size ≤ maxLen) :
    Calls Tryz.prog 20 #[.slice A l.length c, .string s] w (RetOwn w 71 5 none (evsL bk0 l s.data.toList).length (evs (evsL bk0 l s.data.toList))) := by
  have HL : Hid (OdsS w0 w (Lt w.heap.size) A l) := by
    obtain ⟨cells, hr, hE⟩ := hl
    exact ⟨cells, rd_lt hr (by omega), hE⟩
  have HB0 := Lib.hid hb0
  have HNEW := Lib.hid (dnew_any w)
  have HLG := Lib.hid hlg
  have HS := Lib.hid hs
  have hlm : l.length ≤ 1000 := hlc
  clear hl hb0 hlc hlg hs
  go_enter Tryz.func20, Tryz.ntmps20
  go_wp2_with fail
  (with_reducible refine HNEW.out.mono ?_)
  rintro e w1 ⟨d, rfl, hd1, hf1, hn1⟩
  have HF1 := Lib.hid hf1
  have HN1 := Lib.hid hn1
  have HD1 := Lib.hid hd1
  clear hf1 hn1 hd1 HNEW
  go_wp2
  go_loopw [11] (fun iv wr => EsRel w d l iv wr) (fun iv _ => l.length - (intOf iv).toNat)
  case atStart => exact ⟨0, noF, Nat.zero_le _, rfl, HD1.out, HF1.out, HN1.out⟩
  case round =>
    obtain ⟨j, f, hj, rfl, hdk, hfr, hnew⟩ := hrel
    by_cases hlt : j < l.length
    · obtain ⟨ad, v, rfl, _, hok, hg, hL, q0, q1, q2, q3, q4, q5, q6, q7, q8, q9⟩ := (HL.out.below hfr.belowNo (fun _ h => h)).at_ j hlt
      obtain ⟨B, dd, rfl, hd1, hd2⟩ := hL.form
      have hW : ∀ W, Fr No wr W → Below w0.heap.size w0 W := fun W h => (HB0.out.trans (hfr.belowNo.mono HB0.out.size)).trans (h.belowNo.mono (by have := hfr.size; have := HB0.out.size; omega))
      have HDO : Hid (∀ W, Fr No wr W → Calls Tryz.prog 6 #[.pointer (some ⟨d.p, 0, none⟩), l[j].val (.slice B l[j].legs.length dd)] W (DoneS d f (12 * j) (foldB bk0 (l.take j)) (evsL bk0 (l.take j)) 0 noRd l[j] W)) := fun W h =>
        ddo_any (Lt w0.heap.size) l[j] _ W (hdk.no h) hok (hL.below (hW W h)) (fun i hi => by
          have hi : i < w0.heap.size := hi
          have h1 := (hW W h).size
          have h2 := HB0.out.size
          exact ⟨by omega, fun e => by have := hnew i (.inr (.inl e)); omega⟩) (HLG.out _ (List.getElem_mem hlt)) (by omega) (fun nm => by
          have := evsL_len bk0 (l.take j) nm
          rw [List.length_take] at this
          omega)
      have HE1 : Hid (∀ nm, evsL bk0 (l.take j) nm ++ newEv (foldB bk0 (l.take j)) l[j] nm = evsL bk0 (l.take (j + 1)) nm) := fun nm => (evs_take_next bk0 l j hlt nm).symm
      have HE2 : Hid (doB (foldB bk0 (l.take j)) l[j] = foldB bk0 (l.take (j + 1))) := (fold_take_next bk0 l j hlt).symm
      have HNX : Hid (∀ W e w', Fr No wr W → DoneS d f (12 * j) (foldB bk0 (l.take j)) (evsL bk0 (l.take j)) 0 noRd l[j] W e w' → (∃ v, e = .returned v) ∧ EsRel w d l (.int .i64 ((j + 1 : Nat) : Int)) w') := fun W e w' hW ⟨f', he, hdk', hf', hb'⟩ => by
        refine ⟨⟨_, he⟩, j + 1, f', hlt, rfl, ?_, (hfr.trans hW).trans' hf' (fun i hi hlt2 => ?_), ?_⟩
        · rw [← HE2.out]
          exact hdk'.same (by omega) HE1.out
        · have := hnew i (Dp.wr_all hi)
          omega
        · exact Dp.new hnew (Nat.le_trans hfr.size hW.size) hb'
      have HFR := Lib.hid hfr
      clear hdk hnew hok hg hL hfr hW HE1 HE2
      generalize foldB bk0 (l.take j) = bj at *
      generalize evsL bk0 (l.take j) = Ej at *
      have HDX : Hid (∀ W, Fr No wr W → Calls Tryz.prog 6 #[.pointer (some ⟨d.p, 0, none⟩), .agg #[.int .i64 l[j].cl, .int .i64 l[j].sq, .int .i64 l[j].kd, .string l[j].acct, .string l[j].peer, .int .i64 l[j].sum, .slice B l[j].legs.length dd, .int .i64 l[j].per, .int .i64 l[j].hold, .string l[j].note]] W fun e w' => (∃ v, e = .returned v) ∧ EsRel w d l (.int .i64 ((j + 1 : Nat) : Int)) w') := fun W h => (HDO.out W h).mono fun e w' hx => HNX.out W e w' h hx
      clear HDO HNX
      generalize l[j].legs.length = Ln at *
      generalize l[j].cl = cl at *
      generalize l[j].sq = sq at *
      generalize l[j].kd = kd at *
      generalize l[j].acct = acct at *
      generalize l[j].peer = peer at *
      generalize l[j].sum = sum at *
      generalize l[j].per = per at *
      generalize l[j].hold = hold at *
      generalize l[j].note = note at *
      go_wp2_with fail
      (with_reducible refine (HDX.out _ ((Fr.refl _ wr).alloc _)).mono ?_)
      rintro e w5 ⟨⟨rv, rfl⟩, hrel5⟩
      have HR5 := Lib.hid hrel5
      clear hrel5 q0 q1 q2 q3 q4 q5 q6 q7 q8 q9
      go_wp2
      go_roundw
      case rel =>
        have := HR5.out
        have e1 : ((j + 1 : Nat) : Int) = (j : Int) + 1 := by omega
        rw [e1] at this
        exact this
      case measure => simp [intOf]; omega
    · obtain rfl : j = l.length := by omega
      rw [List.take_length] at hdk
      have HOF := Lib.hid (dof_any s wr hdk HS.out (by have := evsL_len bk0 l s.data.toList; omega))
      have HFR := Lib.hid hfr
      clear hdk hnew hfr
      go_wp2_with fail
      (with_reducible refine HOF.out.mono ?_)
      rintro e w5 ⟨v, rfl, ho, hf, hn⟩
      have HO := Lib.hid ho
      have HF : Hid (Fr (AtO none) w w5) := (HFR.out.trans (fr_at_none hf)).mono fun _ _ h => False.elim h
      have HN : Hid (Newer w.heap.size none v.ownBlock) := by
        rcases hn with h | ⟨k, h1, h2⟩
        · exact .inl h
        · exact .inr ⟨k, h1, Nat.le_trans HFR.out.size h2⟩
      clear ho hf hn HOF
      go_wp2
      go_ret
      exact ⟨v, rfl, HO.out, HF.out, HN.out⟩
end Go.Proofs.YtjbeaoabhhaiiaaGreat

namespace Go.Proofs.YtjbeaoabhhaiiaaGreat
open Go.RowKit Go.My Go.Maps Go.WideMaps
set_option linter.unusedSimpArgs false
set_option linter.unusedVariables false
attribute [local go_sem ↓] Go.wp_at_zero Go.wp_at_succ

def Od.few8 (o : Od) : Od := { o with legs := o.legs.take 8 }
def fewO (l : List Od) (n : Nat) : List Od := (l.take n).map Od.few8
theorem fewO_length (l : List Od) (n : Nat) : (fewO l n).length = min n l.length := by unfold fewO; rw [List.length_map, List.length_take]
theorem fewO_succ (l : List Od) (k : Nat) (hk : k < l.length) : fewO l (k + 1) = fewO l k ++ [l[k].few8] := by unfold fewO; rw [List.take_succ_eq_append_getElem hk, List.map_append]; rfl
/-- a row of the call's own that holds orders -/
def OwnO (w0 w : World) (v : Value) (l : List Od) : Prop := ∃ cells, Own w 35 10 v l.length cells ∧ Each (OdR w0) 10 cells l
theorem OwnO.nil (w0 w : World) : OwnO w0 w (.slice none 0 0) [] := ⟨[], Own.nil _ _ _, Each.nilO w0⟩
theorem OwnO.ods {w0 w : World} {A : Option Addr} {m c : Nat} {l : List Od} (h : OwnO w0 w (.slice A m c) l) : OdsS w0 w (fun k => (Value.slice A m c).ownBlock = some k) A l := by
  obtain ⟨cells, ho, hE⟩ := h
  exact ⟨cells, ho.rd, hE⟩
theorem OwnO.form {w0 w : World} {v : Value} {l : List Od} (h : OwnO w0 w v l) : ∃ A c, v = .slice A l.length c ∧ l.length ≤ c ∧ c ≤ maxLen := by
  obtain ⟨cells, ho, _⟩ := h
  exact ho.form
/-- what few hands back -/
theorem OwnO.ret {w0 w w' : World} {A : Option Addr} {c : Nat} {l : List Od} (h : OwnO w0 w' (.slice A l.length c) l) (hf : Fr No w w') (hn : Newer w.heap.size none (Value.slice A l.length c).ownBlock) : OdsS w0 w' (fun k => w.heap.size ≤ k) A l :=
  h.ods.more fun k hk => newer_none hn k hk
def FeRel (w0 w : World) (l : List Od) (n : Nat) (lv iv : Value) (wr : World) : Prop :=
  ∃ k : Nat, k ≤ l.length ∧ k ≤ n ∧ iv = .int .i64 k ∧ OwnO w0 wr lv (fewO l k) ∧ Fr No w wr ∧ Newer w.heap.size none lv.ownBlock
def FewRet (w0 w : World) (l : List Od) (e : Ending) (w' : World) : Prop := ∃ A c, e = .returned (.slice A l.length c) ∧ OdsS w0 w' (fun k => w.heap.size ≤ k) A l ∧ l.length ≤ c ∧ c ≤ maxLen ∧ Fr No w w'
end Go.Proofs.YtjbeaoabhhaiiaaGreat

namespace Go.Proofs.YtjbeaoabhhaiiaaGreat
open Go.RowKit Go.My Go.Maps
set_option linter.unusedSimpArgs false
set_option linter.unusedVariables false
attribute [local go_sem ↓] Go.wp_at_zero Go.wp_at_succ

theorem elE12 : El Tryz.prog 47 89 5 40 := ⟨Tryz.underlying47, by
  have h : (Tryz.prog.info? 89).map (fun i => (i.zero, i.size, i.bytes)) = some (some (.agg #[.int .i64 0, .int .i64 0, .int .i64 0, .int .i64 0, .int .i64 0]), 5, 40) := by kernel_rfl
  obtain ⟨i, hi, hz, hs, hb⟩ := info_parts h
  exact ⟨i, _, hi, hz, hs, hb, rfl⟩, by omega⟩
def AsRel (w : World) (l : List Ev) (lv iv : Value) (wr : World) : Prop :=
  ∃ k : Nat, k ≤ l.length ∧ iv = .int .i64 k ∧ Own wr 89 5 lv k (evs (l.take k)) ∧ Fr No w wr ∧ Newer w.heap.size none lv.ownBlock
set_option maxRecDepth 100000 in
set_option maxHeartbeats 2000000 in
theorem as12_any (F : Nat → Prop) (A : Option Addr) (c : Nat) (l : List Ev) (w : World) (hr : Rd w F 5 A l.length (evs l)) (hl : l.length ≤ 1000000) :
    Calls Tryz.prog 12 #[.slice A l.length c] w (RetOwn w 89 5 none l.length (evs l)) := by
  have HR := Lib.hid hr
  clear hr
  go_enter Tryz.func12, Tryz.ntmps12
  go_wp2
  go_loopw [3, 4] (fun lv iv wr => AsRel w l lv iv wr) (fun _ iv _ => l.length - (intOf iv).toNat)
  case atStart => exact ⟨0, Nat.zero_le _, rfl, Own.nil _ _ _, Fr.refl _ _, .inl rfl⟩
  case round =>
    obtain ⟨k, hk, rfl, hown, hfr, hnew⟩ := hrel
    have hk62 : (k : Int) ≤ 1000000 := by omega
    by_cases hlt : k < l.length
    · obtain ⟨ad, rfl, hF, p0, p1, p2, p3, p4⟩ := ev_at HR.out k hlt
      have hX : ∀ W, Fr No w W → Fr No w W ∧ W.cell? (ad.add (k * 5)) = some (.int .i64 l[k].cl) ∧ W.cell? ⟨(ad.add (k * 5)).block, (ad.add (k * 5)).off + 1, none⟩ = some (.int .i64 l[k].sq) ∧ W.cell? ⟨(ad.add (k * 5)).block, (ad.add (k * 5)).off + 2, none⟩ = some (.int .i64 l[k].kd) ∧ W.cell? ⟨(ad.add (k * 5)).block, (ad.add (k * 5)).off + 3, none⟩ = some (.int .i64 l[k].hv) ∧ W.cell? ⟨(ad.add (k * 5)).block, (ad.add (k * 5)).off + 4, none⟩ = some (.int .i64 l[k].st) := fun W hW =>
        ⟨hW, hW.cell_some p0 (fun h => h), hW.cell_some p1 (fun h => h), hW.cell_some p2 (fun h => h), hW.cell_some p3 (fun h => h), hW.cell_some p4 (fun h => h)⟩
      have E : Hid (evs (l.take (k + 1)) = evs (l.take k) ++ [.int .i64 l[k].cl, .int .i64 l[k].sq, .int .i64 l[k].kd, .int .i64 l[k].hv, .int .i64 l[k].st]) := by
        show _ = _
        rw [List.take_succ_eq_append_getElem hlt, evs_append, evs_one]
        rfl
      have HX := Lib.hid hX
      generalize l[k].cl = e0 at *
      generalize l[k].sq = e1 at *
      generalize l[k].kd = e2 at *
      generalize l[k].hv = e3 at *
      generalize l[k].st = e4 at *
      have HO := Lib.hid hown
      have HFR := Lib.hid hfr
      have HNW := Lib.hid hnew
      have hk0 : Fr No w wr.drew := hfr.drew
      have hk9 : Fr No w wr := hfr
      have HFA : Hid (Fr No w (wr.alloc (.cells #[.int .i64 e0, .int .i64 e1, .int .i64 e2, .int .i64 e3, .int .i64 e4] 89)).drew) := (hfr.alloc _).drew
      clear hX p0 p1 p2 p3 p4 hF hown hnew hfr
      go_upto_region 5 with (fail)
      go_region_held3 (fun W => Fr No w W ∧ W.cell? (ad.add (k * 5)) = some (.int .i64 e0) ∧ W.cell? ⟨(ad.add (k * 5)).block, (ad.add (k * 5)).off + 1, none⟩ = some (.int .i64 e1) ∧ W.cell? ⟨(ad.add (k * 5)).block, (ad.add (k * 5)).off + 2, none⟩ = some (.int .i64 e2) ∧ W.cell? ⟨(ad.add (k * 5)).block, (ad.add (k * 5)).off + 3, none⟩ = some (.int .i64 e3) ∧ W.cell? ⟨(ad.add (k * 5)).block, (ad.add (k * 5)).off + 4, none⟩ = some (.int .i64 e4))
        (first
          | (with_reducible refine HX.out _ ?_; with_reducible assumption)
          | (with_reducible refine HX.out _ (Fr.drew (Fr.alloc ?_ _)); with_reducible assumption)
          | (with_reducible refine HX.out _ (Fr.alloc ?_ _); with_reducible assumption)
          | (refine HX.out _ ?_; assumption))
        (first
          | (refine step_app _ rfl (.tmp 11) (.tmp 33) 47 47 rfl elE12 (HO.out.alloc (.cells #[.int .i64 e0, .int .i64 e1, .int .i64 e2, .int .i64 e3, .int .i64 e4] 89)).drew rfl (Src.of_new (cs := #[.int .i64 e0, .int .i64 e1, .int .i64 e2, .int .i64 e3, .int .i64 e4]) (t := 89) wr.heap.size (heap_alloc_new wr _) Tryz.underlying47 rfl (by simp [Value.oneCell'])) rfl (by simp only [maxLen]; omega) (by omega) ?_; intro v3 w3 hown3 hf3 hn3; have hk3 : Fr No w w3 := fr_no HFA.out HNW.out hf3))
      all_goals
        have HO3 := Lib.hid hown3
        have HN3 : Hid (Newer w.heap.size none v3.ownBlock) := HNW.out.trans (Newer.of hn3) HFA.out.size
        have HF3 := Lib.hid hk3
        clear hown3 hn3 hf3 hk3 hk0 hk9
        go_wp2
        go_roundw
        case rel =>
          refine ⟨k + 1, by omega, by go_num, ?_, HF3.out, HN3.out⟩
          rw [E.out]
          exact HO3.out
        case measure => simp [intOf]; omega
    · obtain rfl : k = l.length := by omega
      rw [List.take_length] at hown
      obtain ⟨A1, c1, rfl, -, -⟩ := hown.form
      have HO := Lib.hid hown
      have HF : Hid (Fr (AtO none) w wr) := hfr.mono fun _ _ h => False.elim h
      have HN := Lib.hid hnew
      clear hown hfr hnew
      go_wp2
      go_ret
      exact ⟨_, rfl, HO.out, HF.out, HN.out⟩
def Sm12Rel (w : World) (n : Nat) (iv : Value) (wr : World) : Prop := ∃ k : Nat, k ≤ n ∧ iv = .int .i64 k ∧ Fr No w wr
set_option maxRecDepth 100000 in
set_option maxHeartbeats 2000000 in
theorem same12_eq (F G : Nat → Prop) (A B : Option Addr) (c d : Nat) (l : List Ev) (w : World) (ha : Rd w F 5 A l.length (evs l)) (hb : Rd w G 5 B l.length (evs l)) (hl : l.length ≤ 1000000) :
    Calls Tryz.prog 11 #[.slice A l.length c, .slice B l.length d] w fun e w' => e = .returned (.bool true) ∧ Fr No w w' := by
  have HA := Lib.hid ha
  have HB := Lib.hid hb
  clear ha hb
  go_enter Tryz.func11, Tryz.ntmps11
  go_wp2
  go_loopw [5] (fun iv wr => Sm12Rel w l.length iv wr) (fun iv _ => l.length - (intOf iv).toNat)
  case atStart => exact ⟨0, Nat.zero_le _, rfl, Fr.refl _ _⟩
  case round =>
    obtain ⟨k, hk, rfl, hfr⟩ := hrel
    have hk62 : (k : Int) ≤ 1000000 := by omega
    by_cases hlt : k < l.length
    · obtain ⟨ad, rfl, _, p0, p1, p2, p3, p4⟩ := ev_at (HA.out.fr (by decide : 0 < 5) hfr (fun _ _ _ h => h)) k hlt
      obtain ⟨bd, rfl, _, q0, q1, q2, q3, q4⟩ := ev_at (HB.out.fr (by decide : 0 < 5) hfr (fun _ _ _ h => h)) k hlt
      generalize l[k].cl = e0 at *
      generalize l[k].sq = e1 at *
      generalize l[k].kd = e2 at *
      generalize l[k].hv = e3 at *
      generalize l[k].st = e4 at *
      have HFR := Lib.hid hfr
      clear hfr
      go_upto_region 6 with (fail)
      go_quiet (fail)
      go_wp2
      go_roundw
      case rel => exact ⟨k + 1, by omega, by go_num, HFR.out.drewN _⟩
      case measure => simp [intOf]; omega
    · obtain rfl : k = l.length := by omega
      go_wp2
      go_ret
      exact ⟨rfl, hfr⟩
end Go.Proofs.YtjbeaoabhhaiiaaGreat

namespace Go.Proofs.YtjbeaoabhhaiiaaGreat
open Go.RowKit Go.My Go.Maps
set_option linter.unusedSimpArgs false
set_option linter.unusedVariables false
attribute [local go_sem ↓] Go.wp_at_zero Go.wp_at_succ

instance : DecidableEq Ev := fun a b =>
  if h : a.cl = b.cl ∧ a.sq = b.sq ∧ a.kd = b.kd ∧ a.hv = b.hv ∧ a.st = b.st then isTrue (by cases a; cases b; simp_all) else isFalse (fun e => h (by subst e; exact ⟨rfl, rfl, rfl, rfl, rfl⟩))
def lv1 : Od := askOd 1 1 ⟨#[97]⟩ 5
def lv2 : Od := askOd 2 3 ⟨#[97]⟩ 3
theorem lv1_ok : lv1.ok := by
  unfold lv1 askOd Od.ok In64
  refine ⟨by simp, by simp, by simp, by decide, ?_, by simp, by simp, by simp, ?_⟩ <;> (show (⟨#[]⟩ : ByteArray).size ≤ maxLen; decide)
theorem lv2_ok : lv2.ok := by
  unfold lv2 askOd Od.ok In64
  refine ⟨by simp, by simp, by simp, by decide, ?_, by simp, by simp, by simp, ?_⟩ <;> (show (⟨#[]⟩ : ByteArray).size ≤ maxLen; decide)
theorem lv_R1 : doR bk0 lv1 = ⟨0, 0, 0, 0⟩ := by decide +kernel
theorem lv_R2 : doR (doB bk0 lv1) lv2 = ⟨0, 0, 3, 2⟩ := by decide +kernel
theorem lv_E : newEv bk0 lv1 [97] ++ newEv (doB bk0 lv1) lv2 [97] = [⟨0, 1, 1, 0, 0⟩, ⟨0, 2, 3, 0, 3⟩] := by decide +kernel
theorem lv_E0 : readE noRd 0 [109, 101] [97] = 0 := by decide +kernel
theorem add_pos12 (a : Addr) (j : Nat) (h : 0 < j) : a.add j = ⟨a.block, a.off + j, none⟩ := by
  unfold Addr.add
  rw [if_neg (by omega)]
set_option maxRecDepth 100000 in
set_option maxHeartbeats 4000000 in
theorem lives12 (w : World) : Calls Tryz.prog 4 #[] w fun e w' => e = .returned (.bool true) ∧ Fr No w w' := by
  have HD1 : Hid (∀ W d f g k, DkS W d f 0 bk0 noEv k g → Calls Tryz.prog 6 #[.pointer (some ⟨d.p, 0, none⟩), .agg #[.int .i64 0, .int .i64 1, .int .i64 1, .string ⟨#[97]⟩, .string ⟨#[]⟩, .int .i64 5, .slice none 0 0, .int .i64 0, .int .i64 0, .string ⟨#[]⟩]] W (DoneS d f 0 bk0 noEv k g lv1 W)) := fun W d f g k h =>
    ddo_any (fun _ => False) lv1 (.slice none 0 0) W h lv1_ok (LgS_nil _ _) (fun _ h => h.elim) (by decide) (by omega) (fun _ => by simp [noEv])
  have HD2 : Hid (∀ W d f g k, DkS W d f 12 (doB bk0 lv1) (fun nm => noEv nm ++ newEv bk0 lv1 nm) k g → Calls Tryz.prog 6 #[.pointer (some ⟨d.p, 0, none⟩), .agg #[.int .i64 0, .int .i64 2, .int .i64 3, .string ⟨#[97]⟩, .string ⟨#[]⟩, .int .i64 3, .slice none 0 0, .int .i64 0, .int .i64 0, .string ⟨#[]⟩]] W (DoneS d f 12 (doB bk0 lv1) (fun nm => noEv nm ++ newEv bk0 lv1 nm) k g lv2 W)) := fun W d f g k h =>
    ddo_any (fun _ => False) lv2 (.slice none 0 0) W h lv2_ok (LgS_nil _ _) (fun _ h => h.elim) (by decide) (by omega) (fun nm => by have := newEv_len bk0 lv1 nm; simp [noEv]; omega)
  unfold DoneS at HD1 HD2
  rw [lv_R1] at HD1
  rw [lv_R2] at HD2
  have HEE : Hid ((noEv [97] ++ newEv bk0 lv1 [97]) ++ newEv (doB bk0 lv1) lv2 [97] = [⟨0, 1, 1, 0, 0⟩, ⟨0, 2, 3, 0, 3⟩]) := lv_E
  have HNW := Lib.hid (dnew_any w)
  go_enter Tryz.func4, Tryz.ntmps4
  go_wp2_with fail
  (with_reducible refine HNW.out.mono ?_)
  rintro e w1 ⟨d, rfl, hd1, hf1, hn1⟩
  have hn64 := hf1.size
  have HF1 := Lib.hid hf1
  have HN1 := Lib.hid hn1
  have HDa := Lib.hid hd1
  clear hf1 hn1 hd1 HNW
  go_wp2_with fail
  refine (HD1.out _ d noF noRd 0 HDa.out).mono ?_
  rintro e w2 ⟨f2, rfl, hd2, hf2, hs2⟩
  have HDb := Lib.hid hd2
  have HN2 : Hid (∀ i, d.all f2 i → w.heap.size ≤ i) := Dp.new HN1.out hn64 hs2
  have HF2 : Hid (Fr No w w2) := HF1.out.trans' hf2 (fun i hi hlt => by have := HN1.out i (Dp.wr_all hi); omega)
  have hn65 := HF2.out.size
  clear hd2 hf2 hs2 HD1
  unfold Rp.val
  go_wp2_with fail
  refine (HD2.out _ d f2 noRd 0 HDb.out).mono ?_
  rintro e w3 ⟨f3, rfl, hd3, hf3, hs3⟩
  have HDc := Lib.hid hd3
  have HN3 : Hid (∀ i, d.all f3 i → w.heap.size ≤ i) := Dp.new HN2.out hn65 hs3
  have HF3 : Hid (Fr No w w3) := HF2.out.trans' hf3 (fun i hi hlt => by have := HN2.out i (Dp.wr_all hi); omega)
  clear hd3 hf3 hs3 HD2
  unfold Rp.val
  have HRD := Lib.hid (fun W hW => dread_any (d := d) (f := f3) (N := 12 + 12) (b := doB (doB bk0 lv1) lv2) (E := fun nm => (noEv nm ++ newEv bk0 lv1 nm) ++ newEv (doB bk0 lv1) lv2 nm) (k := 0) (g := noRd) ⟨#[109, 101]⟩ ⟨#[97]⟩ W hW (by decide) (by decide) (by omega))
  have HRE : Hid (readE noRd 0 (⟨#[109, 101]⟩ : ByteArray).data.toList (⟨#[97]⟩ : ByteArray).data.toList = 0) := lv_E0
  have HRG : Hid (readG noRd 0 (⟨#[109, 101]⟩ : ByteArray).data.toList ⟨#[97]⟩ = setG noRd (⟨#[109, 101]⟩ : ByteArray).data.toList (⟨#[97]⟩, 0)) := by show _ = _; unfold readG; rw [HRE.out]; rfl
  rw [HRE.out, HRG.out] at HRD
  clear HRE HRG
  generalize hb3 : doB (doB bk0 lv1) lv2 = b3 at *
  clear hb3
  have HPL : Hid (∀ W k, DkS W d f3 (12 + 12) b3 (fun nm => (noEv nm ++ newEv bk0 lv1 nm) ++ newEv (doB bk0 lv1) lv2 nm) k (setG noRd (⟨#[109, 101]⟩ : ByteArray).data.toList (⟨#[97]⟩, 0)) → Calls Tryz.prog 9 #[.pointer (some ⟨d.p, 0, none⟩), .string ⟨#[109, 101]⟩, .int .i64 9] W fun e w' => ∃ v, e = .returned (.tuple #[v, .int .i64 0]) ∧ Own w' 71 5 v 2 (evs [⟨0, 1, 1, 0, 0⟩, ⟨0, 2, 3, 0, 3⟩]) ∧ Fr No W w' ∧ ∀ i, v.ownBlock = some i → W.heap.size ≤ i) := fun W k hW => by
    have h := poll_some ⟨#[109, 101]⟩ 9 W hW (by decide) (by unfold In64; omega) (a := ⟨#[97]⟩) (t := 0) (by unfold setG; rw [if_pos rfl]) (by
      show ((noEv [97] ++ newEv bk0 lv1 [97]) ++ newEv (doB bk0 lv1) lv2 [97]).length ≤ 1000000
      rw [HEE.out]
      decide)
    have e2 : (((noEv [97] ++ newEv bk0 lv1 [97]) ++ newEv (doB bk0 lv1) lv2 [97]).drop 0).take (9 : Int).toNat = [⟨0, 1, 1, 0, 0⟩, ⟨0, 2, 3, 0, 3⟩] := by rw [HEE.out]; rfl
    have e3 : ((((fun nm => (noEv nm ++ newEv bk0 lv1 nm) ++ newEv (doB bk0 lv1) lv2 nm) (⟨#[97]⟩ : ByteArray).data.toList).drop 0).take (9 : Int).toNat) = [⟨0, 1, 1, 0, 0⟩, ⟨0, 2, 3, 0, 3⟩] := e2
    rw [e3] at h
    exact h
  go_wp2_with fail
  refine (HRD.out _ (HDc.out.no ((Fr.refl _ _).alloc _))).mono ?_
  rintro e w4 ⟨rfl, hd4, hf4⟩
  have hbr := (Blk.new w3 41 #[.int .i64 0, .int .i64 0, .int .i64 3, .int .i64 2]).fr hf4 (fun e => by
    have e : w3.heap.size = d.r := e
    have := HDc.out.rd.lt
    omega)
  have HF4 : Hid (Fr No w w4) := (HF3.out.alloc _).trans' hf4 (fun i hi hlt => by
    have e : i = d.r := hi
    have := HN3.out d.r (.inr (.inr (.inr rfl)))
    omega)
  have HBR := Lib.hid hbr
  have HD4 := Lib.hid hd4
  clear hbr hd4 hf4 HRD
  go_wp2_with fail
  refine (HPL.out _ _ HD4.out).mono ?_
  rintro e w5 ⟨v5, rfl, ho5, hf5, hn5⟩
  have b3 := (HBR.out.fr hf5 (fun h => h)).cell 3
  obtain ⟨A5, c5, rfl, hc5, hm5⟩ := ho5.form
  obtain ⟨ad, rfl, _, p0, p1, p2, p3, p4⟩ := ev_at (S := [⟨0, 1, 1, 0, 0⟩, ⟨0, 2, 3, 0, 3⟩]) ho5.rd 1 (by decide)
  simp only [List.getElem?_toArray, List.getElem?_cons_zero, List.getElem?_cons_succ] at b3
  simp at p0 p1 p2 p3 p4
  rw [add_pos12 ad 5 (by omega)] at p0 p1 p2 p3 p4
  have HF5 : Hid (Fr No w w5) := HF4.out.trans hf5
  clear ho5 hf5 hn5 HPL
  go_wp2
  go_ret
  exact ⟨rfl, HF5.out⟩
end Go.Proofs.YtjbeaoabhhaiiaaGreat

namespace Go.Proofs.YtjbeaoabhhaiiaaGreat
open Go.RowKit Go.My Go.Maps
set_option linter.unusedSimpArgs false
set_option linter.unusedVariables false
attribute [local go_sem ↓] Go.wp_at_zero Go.wp_at_succ

/-- what an order that may be touches are names -/
theorem touch_valid {o : Od} (hr : rightO o = true) {s : List UInt8} (hs : s ∈ touchL o) : nameB s = true := by
  obtain ⟨hm, k6⟩ := touch_names hr hs
  unfold rightO at hr
  simp only [Bool.and_eq_true, decide_eq_true_eq] at hr
  obtain ⟨h1, h2, hid, ha, hp, hs2, hl, hper, hh, hn⟩ := hr
  unfold names at hm
  have han : o.kd ≠ 2 → nameB o.an = true := fun h => by
    unfold acctB at ha
    rw [if_neg (by rintro (e | e); exact h e; exact k6 e)] at ha
    exact ha
  by_cases k2 : o.kd = 2
  · rw [if_pos k2] at hm
    unfold legsB at hl
    rw [if_pos k2] at hl
    obtain ⟨g, hg, rfl⟩ := List.mem_map.1 hm
    unfold rightB at hl
    simp only [Bool.and_eq_true, List.all_eq_true] at hl
    exact (hl.1.2 g hg).1
  rw [if_neg k2] at hm
  by_cases k4 : o.kd = 4
  · rw [if_pos k4, List.mem_cons, List.mem_singleton] at hm
    rcases hm with rfl | rfl
    · exact han k2
    · unfold peerB at hp
      rw [if_pos k4, Bool.and_eq_true] at hp
      exact hp.1
  · rw [if_neg k4, List.mem_singleton] at hm
    subst hm
    exact han k2
theorem newEv_bad {b : Bk} {o : Od} {nm : List UInt8} (h : nameB nm = false) : newEv b o nm = [] := by
  unfold newEv
  refine if_neg fun e => ?_
  have hr : rightO o = true := by
    have h1 := e.1
    unfold doR at h1
    split at h1
    · assumption
    · cases h1
  rw [touch_valid hr e.2] at h
  cases h
theorem evsL_bad {nm : List UInt8} (h : nameB nm = false) : ∀ (b : Bk) (l : List Od), evsL b l nm = []
  | _, [] => rfl
  | b, o :: r => by
    show newEv b o nm ++ evsL (doB b o) r nm = []
    rw [newEv_bad h, evsL_bad h]
    rfl
theorem setG_setG (g : List UInt8 → Option Rdr) (nm : List UInt8) (x y : Rdr) : setG (setG g nm x) nm y = setG g nm y := by
  funext j
  unfold setG
  by_cases e : j = nm
  · simp [e]
  · simp [e]
theorem setG_at (g : List UInt8 → Option Rdr) (nm : List UInt8) (x : Rdr) : setG g nm x nm = some x := by unfold setG; rw [if_pos rfl]
theorem moveE_ok {n most : Int} (h0 : 0 ≤ n) (h : n ≤ most) : moveE n most = 0 := by unfold moveE; rw [if_neg (by omega)]
theorem moveE_bad {n most : Int} (h : most < n) : moveE n most = 13 := by unfold moveE; rw [if_pos (.inr h)]
theorem fewO_legs {l : List Od} {n : Nat} : ∀ o ∈ fewO l n, o.legs.length ≤ 100000 := fun o ho => by
  unfold fewO at ho
  obtain ⟨x, _, rfl⟩ := List.mem_map.1 ho
  unfold Od.few8
  simp only [List.length_take]
  omega
theorem readMe (a : ByteArray) : readE noRd 0 (⟨#[109, 101]⟩ : ByteArray).data.toList a.data.toList = if nameB a.data.toList = true then 0 else 1 := by
  unfold readE
  have h1 : nameB (⟨#[109, 101]⟩ : ByteArray).data.toList = true := by decide +kernel
  rw [h1]
  cases nameB a.data.toList <;> rfl
/-- what a desk does while a law holds it: it changes its own blocks, and makes new ones -/
structure Run (w4 : World) (d : Dp) (f : List UInt8 → Option Value) (wr : World) : Prop where
  fr : Fr (d.all noF) w4 wr
  sub : ∀ i, d.all f i → d.all noF i ∨ w4.heap.size ≤ i
theorem Run.start {w4 : World} {d : Dp} : Run w4 d noF w4 := ⟨Fr.refl _ _, fun _ h => .inl h⟩
theorem Run.no {w4 wr w' : World} {d : Dp} {f : List UInt8 → Option Value} (h : Run w4 d f wr) (hf : Fr No wr w') : Run w4 d f w' := ⟨h.fr.trans (hf.mono fun _ _ h => False.elim h), h.sub⟩
theorem Run.take {w4 wr w' : World} {d : Dp} {f : List UInt8 → Option Value} (h : Run w4 d f wr) (hf : Fr (At1 d.r) wr w') : Run w4 d f w' := ⟨h.fr.trans (hf.mono fun i _ h => .inr (.inr (.inr h))), h.sub⟩
theorem Run.did {w4 wr w' : World} {d : Dp} {f f' : List UInt8 → Option Value} (h : Run w4 d f wr) (hf : Fr (d.wr f) wr w') (hs : ∀ i, evB d.m f' i → evB d.m f i ∨ wr.heap.size ≤ i) : Run w4 d f' w' :=
  ⟨h.fr.trans' hf fun i hi hlt => (h.sub i (Dp.wr_all hi)).resolve_right (by omega), fun i hi => by
    have := h.fr.size
    rcases hi with e | e | e | e
    · exact h.sub i (.inl e)
    · exact h.sub i (.inr (.inl e))
    · rcases hs i e with h3 | h3
      · exact h.sub i (.inr (.inr (.inl h3)))
      · exact .inr (by omega)
    · exact h.sub i (.inr (.inr (.inr e)))⟩
def NoneRel (w4 : World) (d : Dp) (l : List Od) (iv : Value) (wr : World) : Prop :=
  ∃ (j : Nat) (f : List UInt8 → Option Value), j ≤ l.length ∧ iv = .int .i64 j ∧ DkS wr d f (12 * j) (foldB bk0 (l.take j)) (evsL bk0 (l.take j)) 0 noRd ∧ Run w4 d f wr
/-- the step that all these laws make: an order of the list is done -/
theorem do_step {w0 w4 wr : World} {d : Dp} {f : List UInt8 → Option Value} {l : List Od} {j k : Nat} {g : List UInt8 → Option Rdr} (hlt : j < l.length) (hl : l.length ≤ 1000) (hlg : ∀ o ∈ l, o.legs.length ≤ 100000) (hdk : DkS wr d f (12 * j) (foldB bk0 (l.take j)) (evsL bk0 (l.take j)) k g) (hd0 : ∀ i, d.all noF i → w0.heap.size ≤ i) (hw : w0.heap.size ≤ w4.heap.size) (hrun : Run w4 d f wr) (hok : l[j].ok) {v : Value} (hL : LgS w0 (Lt w0.heap.size) v l[j].legs) (hb : Below w0.heap.size w0 w4) (W : World) (hW : Fr No wr W) :
    Calls Tryz.prog 6 #[.pointer (some ⟨d.p, 0, none⟩), l[j].val v] W fun e w' => (∃ x, e = .returned x) ∧ ∃ f', DkS w' d f' (12 * (j + 1)) (foldB bk0 (l.take (j + 1))) (evsL bk0 (l.take (j + 1))) k g ∧ Run w4 d f' w' ∧ Fr (d.wr f) W w' ∧ ∀ i, evB d.m f' i → evB d.m f i ∨ W.heap.size ≤ i := by
  have hnew : ∀ i, d.all f i → w0.heap.size ≤ i := fun i hi => by
    rcases hrun.sub i hi with h | h
    · exact hd0 i h
    · omega
  have hbW : Below w0.heap.size w0 W := (Fr.below_trans hb hrun.fr (by omega) (fun i hi h => by have := hd0 i h; omega)).trans ((hW.below_at (by have := hrun.fr.size; omega) (fun i _ h => h)))
  refine (ddo_any (Lt w0.heap.size) l[j] v W (hdk.no hW) hok (hL.below hbW) (fun i hi => ?_) (hlg _ (List.getElem_mem hlt)) (by omega) (fun nm => ?_)).mono ?_
  · have hi : i < w0.heap.size := hi
    have h1 := hbW.size
    have h2 := hrun.fr.size
    have h3 := hW.size
    exact ⟨by omega, fun e => by have := hnew i (.inr (.inl e)); omega⟩
  · have := evsL_len bk0 (l.take j) nm
    rw [List.length_take] at this
    omega
  · rintro e w' ⟨f', rfl, hd', hf', hs'⟩
    refine ⟨⟨_, rfl⟩, f', ?_, (hrun.no hW).did hf' hs', hf', hs'⟩
    rw [fold_take_next bk0 l j hlt]
    exact hd'.same (by omega) (fun nm => (evs_take_next bk0 l j hlt nm).symm)
end Go.Proofs.YtjbeaoabhhaiiaaGreat

namespace Go.Proofs.YtjbeaoabhhaiiaaGreat
open Go.RowKit Go.My Go.Maps Go.Sort Go.Lib
set_option linter.unusedSimpArgs false
set_option linter.unusedVariables false
attribute [local go_sem ↓] Go.wp_at_zero Go.wp_at_succ

theorem ts_at {w : World} {F : Nat → Prop} {A : Option Addr} {n : Nat} {L : List (List UInt8)} (h : Rd w F 1 A n (ts L)) (k : Nat) (hk : k < n) : ∃ ad, ∃ hl : k < L.length, A = some ad ∧ F ad.block ∧ w.cell? (ad.add k) = some (.string ⟨L[k].toArray⟩) := by
  obtain ⟨ad, rfl, hF, hc⟩ := h.2 (by omega)
  have hl : k < L.length := by have := h.1; rw [ts_length] at this; omega
  exact ⟨ad, hl, rfl, hF, hc k _ (ts_get L k hl)⟩
def hasT (L : List (List UInt8)) (s : List UInt8) : Bool := decide (s ∈ L)
def HsRel (w : World) (L : List (List UInt8)) (s : List UInt8) (iv : Value) (wr : World) : Prop := ∃ k : Nat, k ≤ L.length ∧ iv = .int .i64 k ∧ (∀ x ∈ L.take k, x ≠ s) ∧ wr = w
/-! ### what is known of the accounts that an order names -/
theorem touch_mem (o : Od) (s : List UInt8) : s ∈ touchL o ↔ s ∈ allN o o.legs.length ∧ s ≠ [] := by
  unfold touchL
  rw [(upOf_spec _).2 s]
  unfold namesO
  rw [List.mem_filter]
  cases s <;> simp
theorem touch_up (o : Od) : Up (touchL o) := (upOf_spec _).1
theorem touch_length (o : Od) : (touchL o).length ≤ 2 + o.legs.length := by
  refine Nat.le_trans (upOf_length _) ?_
  unfold namesO
  refine Nat.le_trans (List.length_filter_le _ _) ?_
  rw [allN_length _ _ (Nat.le_refl _)]
  exact Nat.le_refl _
theorem touch_step {L : List (List UInt8)} (h : Up L) (k : Nat) (hk : k < L.length) (h0 : 0 < k) : L[k - 1] < L[k] := List.pairwise_iff_getElem.1 h (k - 1) k (by omega) hk (by omega)
theorem nameB_nil : nameB [] = false := by rfl
theorem touch_none {o : Od} (h : rightO o = true) : ((touchL o).length = 0) ↔ o.kd = 6 := by
  have hm := touch_mem o
  have hx : (touchL o).length = 0 ↔ ∀ s, s ∈ allN o o.legs.length → s = [] := by
    rw [List.length_eq_zero_iff, List.eq_nil_iff_forall_not_mem]
    constructor
    · intro h s hs
      exact Decidable.byContradiction fun hn => h s ((hm s).2 ⟨hs, hn⟩)
    · intro h s hs
      have := (hm s).1 hs
      exact this.2 (h s this.1)
  rw [hx]
  clear hm hx
  obtain ⟨cl, sq, kd, acct, peer, sum, legs, per, hold, note⟩ := o
  unfold rightO acctB peerB sumB legsB perB holdB noteB at h
  simp only [Bool.and_eq_true, decide_eq_true_eq] at h
  obtain ⟨h1, h2, _, ha, hp, _, hl, _⟩ := h
  have hc : kd = 1 ∨ kd = 2 ∨ kd = 3 ∨ kd = 4 ∨ kd = 5 ∨ kd = 6 ∨ kd = 7 := by omega
  have hA : ∀ s, nameB s = true → s ≠ [] := fun s hs e => by rw [e, nameB_nil] at hs; cases hs
  have key : kd ≠ 6 → kd ≠ 2 → ¬ ∀ s, s ∈ allN ⟨cl, sq, kd, acct, peer, sum, legs, per, hold, note⟩ legs.length → s = [] := fun h6 h2 hall => by
    rw [if_neg (by omega)] at ha
    exact hA _ ha (hall _ (by unfold allN; simp))
  constructor
  · intro hall
    refine Decidable.byContradiction fun h6 => ?_
    simp only at h6
    by_cases hk2 : kd = 2
    · subst hk2
      simp only [if_true] at hl
      unfold rightB at hl
      simp only [Bool.and_eq_true, decide_eq_true_eq] at hl
      obtain ⟨⟨⟨l2, _⟩, hg⟩, _⟩ := hl
      match legs, l2, hg, hall with
      | g :: r, _, hg, hall =>
        rw [List.all_cons, Bool.and_eq_true, Bool.and_eq_true] at hg
        refine hA _ hg.1.1 (hall g.nm ?_)
        unfold allN
        simp
    · exact key h6 hk2 hall
  · intro h6 s hs
    simp only at h6
    subst h6
    simp at ha hp hl
    unfold allN at hs
    simp only [Od.an, Od.pn] at ha hp hs
    simp [hl] at hs
    rcases hs with rfl | rfl
    · simp [ha]
    · simp [hp]
theorem less_at {L : List (List UInt8)} (h : Up L) (k : Nat) (hk : k < L.length) (h0 : 0 < k) : Op.bytesLess L[k - 1] L[k] = true := by
  rw [bytesLess_eq]
  exact decide_eq_true (touch_step h k hk h0)
def LpRel (n : Nat) (w : World) (iv : Value) (wr : World) : Prop := ∃ k : Nat, k ≤ n ∧ iv = .int .i64 k ∧ Fr No w wr
def LqRel (n : Nat) (w : World) (iv : Value) (wr : World) : Prop := ∃ k : Nat, k ≤ n ∧ iv = .int .i64 k ∧ wr = w
theorem RetTrue.of {w w' : World} (h : Below w.heap.size w w') : RetTrue w (.returned (.bool true)) w' := ⟨rfl, h⟩
end Go.Proofs.YtjbeaoabhhaiiaaGreat

namespace Go.Proofs.YtjbeaoabhhaiiaaGreat
open Go.RowKit Go.My Go.Maps
set_option linter.unusedSimpArgs false
set_option linter.unusedVariables false

/-- a reader -/
structure Rd2 where
  nm : ByteArray
  ac : ByteArray
  t : Nat
def gOf (R : List Rd2) : List UInt8 → Option Rdr := fun j => (R.find? fun r => r.nm.data.toList == j).map fun r => (r.ac, r.t)
theorem gOf_nil : gOf [] = noRd := rfl
/-- what the document's at tells -/
def AtR2 (R : List Rd2) (j : List UInt8) (z : Int) : Prop := (gOf R j = none ∧ z = -1) ∨ ∃ (k : Nat) (h : k < R.length), z = (k : Int) ∧ R[k].nm.data.toList = j ∧ gOf R j = some (R[k].ac, R[k].t) ∧ ∀ x ∈ R.take k, x.nm.data.toList ≠ j
theorem find2 {R : List Rd2} {j : List UInt8} {k : Nat} (hk : k < R.length) (h : ∀ x ∈ R.take k, x.nm.data.toList ≠ j) (h1 : R[k].nm.data.toList = j) : R.find? (fun r => r.nm.data.toList == j) = some R[k] := by
  rw [List.find?_eq_some_iff_append]
  refine ⟨by simpa using h1, R.take k, R.drop (k + 1), by simp, fun x hx => ?_⟩
  have := h x hx
  simpa using this
theorem at2_yes {R : List Rd2} {j : List UInt8} {k : Nat} (hk : k < R.length) (h : ∀ x ∈ R.take k, x.nm.data.toList ≠ j) (h1 : R[k].nm.data.toList = j) : AtR2 R j (k : Int) := by
  refine .inr ⟨k, hk, rfl, h1, ?_, h⟩
  unfold gOf
  rw [find2 hk h h1]
  rfl
theorem at2_no {R : List Rd2} {j : List UInt8} (h : ∀ x ∈ R, x.nm.data.toList ≠ j) : AtR2 R j (-1) := by
  refine .inl ⟨?_, rfl⟩
  unfold gOf
  rw [List.find?_eq_none.2 fun x hx => by simpa using h x hx]
  rfl
theorem gOf_snoc {R : List Rd2} {s a : ByteArray} (h : gOf R s.data.toList = none) : gOf (R ++ [⟨s, a, 0⟩]) = setG (gOf R) s.data.toList (a, 0) := by
  funext j
  unfold setG
  by_cases e : j = s.data.toList
  · rw [if_pos e, e]
    have h1 : R.find? (fun r => r.nm.data.toList == s.data.toList) = none := by
      unfold gOf at h
      exact Option.map_eq_none_iff.1 h
    unfold gOf
    rw [List.find?_append, h1]
    simp
  · rw [if_neg e]
    unfold gOf
    rw [List.find?_append, List.find?_cons_of_neg (by simpa using fun h => e h.symm), List.find?_nil, Option.or_none]
theorem gOf_set {R : List Rd2} {j : List UInt8} {k : Nat} (hk : k < R.length) (h1 : R[k].nm.data.toList = j) (h : ∀ x ∈ R.take k, x.nm.data.toList ≠ j) (t : Nat) : gOf (R.set k ⟨R[k].nm, R[k].ac, t⟩) = setG (gOf R) j (R[k].ac, t) := by
  have e1 : R = R.take k ++ R[k] :: R.drop (k + 1) := by simp
  funext i
  unfold setG
  by_cases e : i = j
  · rw [if_pos e, e]
    unfold gOf
    rw [find2 (R := R.set k ⟨R[k].nm, R[k].ac, t⟩) (k := k) (by rw [List.length_set]; exact hk) (by rw [List.take_set_of_le (Nat.le_refl _)]; exact h) (by rw [List.getElem_set_self]; exact h1), List.getElem_set_self]
    rfl
  · rw [if_neg e]
    unfold gOf
    rw [List.set_eq_take_append_cons_drop, if_pos hk]
    conv => rhs; rw [e1]
    rw [List.find?_append, List.find?_append, List.find?_cons_of_neg (by simp only [beq_iff_eq, Bool.not_eq_true]; simpa [h1] using fun h => e h.symm), List.find?_cons_of_neg (by simpa [h1] using fun h => e h.symm)]
theorem set2_len (R : List Rd2) (k : Nat) (x : Rd2) : (R.set k x).length = R.length := List.length_set
/-- readers as cells -/
def rdC (r : Rd2) : List Value := [.string r.nm, .string r.ac, .int .i64 (r.t : Int)]
def rdsC (l : List Rd2) : List Value := l.flatMap rdC
theorem rdsC_append (l m : List Rd2) : rdsC (l ++ m) = rdsC l ++ rdsC m := by unfold rdsC; rw [List.flatMap_append]
theorem rdsC_one (r : Rd2) : rdsC [r] = rdC r := by simp [rdsC]
theorem rdsC_length (l : List Rd2) : (rdsC l).length = l.length * 3 := by
  induction l with
  | nil => rfl
  | cons a r ih => show (rdC a ++ rdsC r).length = _; rw [List.length_append, ih, List.length_cons]; simp [rdC]; omega
theorem rdsC_get (l : List Rd2) : ∀ (k i : Nat) (hk : k < l.length), i < 3 → (rdsC l)[k * 3 + i]? = (rdC l[k])[i]? := by
  induction l with
  | nil => intro k i hk; simp at hk
  | cons a r ih =>
    intro k i hk hi
    show (rdC a ++ rdsC r)[k * 3 + i]? = _
    have ha : (rdC a).length = 3 := rfl
    cases k with
    | zero =>
      rw [Nat.zero_mul, Nat.zero_add, List.getElem?_append_left (by omega)]
      rfl
    | succ k =>
      rw [List.getElem?_append_right (by omega)]
      have : (k + 1) * 3 + i - (rdC a).length = k * 3 + i := by omega
      rw [this, ih k i (by simpa using hk) hi]
      rfl
theorem rdsC_set (l : List Rd2) : ∀ (k : Nat) (hk : k < l.length) (t : Nat), (rdsC l).set (k * 3 + 2) (.int .i64 (t : Int)) = rdsC (l.set k ⟨l[k].nm, l[k].ac, t⟩) := by
  induction l with
  | nil => intro k hk; simp at hk
  | cons a r ih =>
    intro k hk t
    have ha : (rdC a).length = 3 := rfl
    cases k with
    | zero => rfl
    | succ k =>
      have hk' : k < r.length := by simpa using hk
      show (rdC a ++ rdsC r).set ((k + 1) * 3 + 2) _ = rdC a ++ rdsC (r.set k ⟨r[k].nm, r[k].ac, t⟩)
      rw [List.set_append_right _ _ (by omega)]
      have : (k + 1) * 3 + 2 - (rdC a).length = k * 3 + 2 := by omega
      rw [this, ih k (by simpa using hk) t]
/-! ### what an order makes happen, told name by name -/
def evT (b : Bk) (o : Od) (nm : List UInt8) (T : List (List UInt8)) : List Ev := T.flatMap fun x => if x = nm then evAt (doB b o) o nm else []
theorem evT_snoc (b : Bk) (o : Od) (nm : List UInt8) (T : List (List UInt8)) (x : List UInt8) : evT b o nm (T ++ [x]) = evT b o nm T ++ if x = nm then evAt (doB b o) o nm else [] := by
  unfold evT
  rw [List.flatMap_append]
  simp
theorem evT_once (b : Bk) (o : Od) (nm : List UInt8) : ∀ {T : List (List UInt8)}, T.Nodup → evT b o nm T = if nm ∈ T then evAt (doB b o) o nm else []
  | [], _ => by simp [evT]
  | x :: T, h => by
    rw [List.nodup_cons] at h
    show (if x = nm then _ else []) ++ evT b o nm T = _
    rw [evT_once b o nm h.2]
    by_cases e : x = nm
    · subst e
      rw [if_pos rfl, if_neg h.1, if_pos List.mem_cons_self, List.append_nil]
    · rw [if_neg e, List.nil_append]
      by_cases k : nm ∈ T
      · rw [if_pos k, if_pos (List.mem_cons_of_mem _ k)]
      · rw [if_neg k, if_neg (by rw [List.mem_cons]; rintro (h1 | h1); exact e h1.symm; exact k h1)]
theorem touch_nodup (o : Od) : (touchL o).Nodup := (touch_up o).imp fun h e => by subst e; exact List.lt_irrefl _ h
theorem evT_all {b : Bk} {o : Od} (h : (doR b o).err = 0) (nm : List UInt8) : evT b o nm (touchL o) = newEv b o nm := by
  rw [evT_once b o nm (touch_nodup o)]
  unfold newEv
  by_cases k : nm ∈ touchL o
  · rw [if_pos k, if_pos ⟨h, k⟩]
  · rw [if_neg k, if_neg fun e => k e.2]
theorem evAt_touch {b : Bk} {o : Od} (h : (doR b o).err = 0) {nm : List UInt8} (hn : nm ∈ touchL o) : evAt (doB b o) o nm = [⟨o.cl, o.sq, o.kd, (getV (doB b o).S nm).hv, (getV (doB b o).S nm).st⟩] ∧ (getA (doB b o).S nm).isSome = true := by
  obtain ⟨h1, -⟩ := do_ok h hn
  unfold evAt getV
  cases hg : getA (doB b o).S nm with
  | none => rw [hg] at h1; cases h1
  | some a => exact ⟨rfl, rfl⟩
theorem evT_len (b : Bk) (o : Od) (nm : List UInt8) (T : List (List UInt8)) : (evT b o nm T).length ≤ T.length := by
  induction T with
  | nil => exact Nat.le_refl _
  | cons x T ih =>
    show ((if x = nm then evAt (doB b o) o nm else []) ++ evT b o nm T).length ≤ T.length + 1
    rw [List.length_append]
    have : (if x = nm then evAt (doB b o) o nm else []).length ≤ 1 := by
      split
      · unfold evAt
        split <;> simp
      · simp
    omega
end Go.Proofs.YtjbeaoabhhaiiaaGreat

namespace Go.Proofs.YtjbeaoabhhaiiaaGreat
open Go.RowKit Go.My Go.Maps
set_option linter.unusedSimpArgs false
set_option linter.unusedVariables false

/-- a step -/
structure Op12 where
  kind : Int
  n : Int
  o : Od
  nm : ByteArray
  ac : ByteArray
def Op12.cs (p : Op12) (v : Value) : List Value := [.int .i64 p.kind, .int .i64 p.n] ++ p.o.cs v ++ [.string p.nm, .string p.ac]
def Op12.ok (p : Op12) : Prop := In64 p.kind ∧ In64 p.n ∧ p.nm.size ≤ maxLen ∧ p.ac.size ≤ maxLen
def OpR (w0 : World) (cs : List Value) (p : Op12) : Prop := ∃ v, cs = p.cs v ∧ OdI w0 p.o v ∧ p.ok
def OpsS (w0 w : World) (F : Nat → Prop) (A : Option Addr) (l : List Op12) : Prop := ∃ cells, Rd w F 14 A l.length cells ∧ Each (OpR w0) 14 cells l
section
variable {w0 w w' : World} {F G : Nat → Prop} {A : Option Addr} {l : List Op12}
theorem OpsS.fr {S : Nat → Prop} (h : OpsS w0 w F A l) (hf : Fr S w w') (hn : ∀ k, F k → k < w.heap.size → ¬ S k) : OpsS w0 w' F A l := by
  obtain ⟨cells, hr, hE⟩ := h
  exact ⟨cells, hr.fr (by omega) hf hn, hE⟩
/-- the step at k -/
theorem OpsS.at_ (h : OpsS w0 w F A l) (k : Nat) (hk : k < l.length) :
    ∃ ad v, A = some ad ∧ F ad.block ∧ OdI w0 l[k].o v ∧ l[k].ok ∧ w.cell? (ad.add (k * 14)) = some (.int .i64 l[k].kind) ∧ w.cell? ⟨(ad.add (k * 14)).block, (ad.add (k * 14)).off + 1, none⟩ = some (.int .i64 l[k].n) ∧
      w.cell? ⟨(ad.add (k * 14)).block, (ad.add (k * 14)).off + 2, none⟩ = some (.int .i64 l[k].o.cl) ∧
      w.cell? ⟨(ad.add (k * 14)).block, (ad.add (k * 14)).off + 3, none⟩ = some (.int .i64 l[k].o.sq) ∧
      w.cell? ⟨(ad.add (k * 14)).block, (ad.add (k * 14)).off + 4, none⟩ = some (.int .i64 l[k].o.kd) ∧
      w.cell? ⟨(ad.add (k * 14)).block, (ad.add (k * 14)).off + 5, none⟩ = some (.string l[k].o.acct) ∧
      w.cell? ⟨(ad.add (k * 14)).block, (ad.add (k * 14)).off + 6, none⟩ = some (.string l[k].o.peer) ∧
      w.cell? ⟨(ad.add (k * 14)).block, (ad.add (k * 14)).off + 7, none⟩ = some (.int .i64 l[k].o.sum) ∧
      w.cell? ⟨(ad.add (k * 14)).block, (ad.add (k * 14)).off + 8, none⟩ = some (v) ∧
      w.cell? ⟨(ad.add (k * 14)).block, (ad.add (k * 14)).off + 9, none⟩ = some (.int .i64 l[k].o.per) ∧
      w.cell? ⟨(ad.add (k * 14)).block, (ad.add (k * 14)).off + 10, none⟩ = some (.int .i64 l[k].o.hold) ∧
      w.cell? ⟨(ad.add (k * 14)).block, (ad.add (k * 14)).off + 11, none⟩ = some (.string l[k].o.note) ∧
      w.cell? ⟨(ad.add (k * 14)).block, (ad.add (k * 14)).off + 12, none⟩ = some (.string l[k].nm) ∧
      w.cell? ⟨(ad.add (k * 14)).block, (ad.add (k * 14)).off + 13, none⟩ = some (.string l[k].ac) := by
  obtain ⟨cells, hr, hE⟩ := h
  obtain ⟨ad, rfl, hF, hc⟩ := hr.2 (by omega)
  obtain ⟨v, hcs, hO, hok⟩ := hE.2 k l[k] (List.getElem?_eq_getElem hk)
  have hget : ∀ i, i < 14 → cells[k * 14 + i]? = (l[k].cs v)[i]? := fun i hi => by
    rw [← hcs, List.getElem?_take, if_pos hi, List.getElem?_drop]
  refine ⟨ad, v, rfl, hF, hO, hok, hc (k * 14) _ (by have := hget 0 (by omega); rw [Nat.add_zero] at this; rw [this]; rfl), ?_, ?_, ?_, ?_, ?_, ?_, ?_, ?_, ?_, ?_, ?_, ?_, ?_⟩
  · rw [← add_lits ad (k * 14) 1 (by omega)]
    exact hc _ _ (by rw [hget 1 (by omega)]; rfl)
  · rw [← add_lits ad (k * 14) 2 (by omega)]
    exact hc _ _ (by rw [hget 2 (by omega)]; rfl)
  · rw [← add_lits ad (k * 14) 3 (by omega)]
    exact hc _ _ (by rw [hget 3 (by omega)]; rfl)
  · rw [← add_lits ad (k * 14) 4 (by omega)]
    exact hc _ _ (by rw [hget 4 (by omega)]; rfl)
  · rw [← add_lits ad (k * 14) 5 (by omega)]
    exact hc _ _ (by rw [hget 5 (by omega)]; rfl)
  · rw [← add_lits ad (k * 14) 6 (by omega)]
    exact hc _ _ (by rw [hget 6 (by omega)]; rfl)
  · rw [← add_lits ad (k * 14) 7 (by omega)]
    exact hc _ _ (by rw [hget 7 (by omega)]; rfl)
  · rw [← add_lits ad (k * 14) 8 (by omega)]
    exact hc _ _ (by rw [hget 8 (by omega)]; rfl)
  · rw [← add_lits ad (k * 14) 9 (by omega)]
    exact hc _ _ (by rw [hget 9 (by omega)]; rfl)
  · rw [← add_lits ad (k * 14) 10 (by omega)]
    exact hc _ _ (by rw [hget 10 (by omega)]; rfl)
  · rw [← add_lits ad (k * 14) 11 (by omega)]
    exact hc _ _ (by rw [hget 11 (by omega)]; rfl)
  · rw [← add_lits ad (k * 14) 12 (by omega)]
    exact hc _ _ (by rw [hget 12 (by omega)]; rfl)
  · rw [← add_lits ad (k * 14) 13 (by omega)]
    exact hc _ _ (by rw [hget 13 (by omega)]; rfl)
end
section
open Go.ChangeShapes Go.WideShapes
variable {H : Type} {enc : TypeId × Value → H} {w : World} {base : Nat} {spare : Nat → Bool} {held : Bool}
set_option maxRecDepth 100000 in
theorem open_op12 {n : Nat} {cs : List Value} {x : DataW H × List MemPlace} (h : DataW.trod enc Tryz.prog w base spare held n 37 cs = some x) : ∃ p : Op12, OpR w cs p := by
  obtain ⟨xs, m, _, _, hl, _, hf⟩ := DataW.trod_struct Tryz.underlying37 h
  have hC : Tryz.prog.cellsOf 37 = 14 := by kernel_rfl
  have C0 : Tryz.prog.cellsOf 35 = 10 := by kernel_rfl
  have C1 : Tryz.prog.cellsOf 9 = 1 := by kernel_rfl
  have C3 : Tryz.prog.cellsOf 3 = 1 := by kernel_rfl
  rw [hC] at hl
  match cs, hl with
  | [v0, v1, v2, v3, v4, v5, v6, v7, v8, v9, v10, v11, v12, v13], _ =>
    have f0 : DataW.trod enc Tryz.prog w base spare held m 3 [v0] = xs[0]? := by have := hf 0 _ rfl; simpa [C0, C1, C3] using this
    have f1 : DataW.trod enc Tryz.prog w base spare held m 3 [v1] = xs[1]? := by have := hf 1 _ rfl; simpa [C0, C1, C3] using this
    have f2 : DataW.trod enc Tryz.prog w base spare held m 35 [v2, v3, v4, v5, v6, v7, v8, v9, v10, v11] = xs[2]? := by have := hf 2 _ rfl; simpa [C0, C1, C3] using this
    have f3 : DataW.trod enc Tryz.prog w base spare held m 9 [v12] = xs[3]? := by have := hf 3 _ rfl; simpa [C0, C1, C3] using this
    have f4 : DataW.trod enc Tryz.prog w base spare held m 9 [v13] = xs[4]? := by have := hf 4 _ rfl; simpa [C0, C1, C3] using this
    have g : ∀ i, i < xs.length → ∃ y, xs[i]? = some y := fun i hi => ⟨xs[i], List.getElem?_eq_getElem hi⟩
    have hxl : xs.length = 5 := by assumption
    obtain ⟨y0, e0⟩ := g 0 (by omega)
    obtain ⟨y1, e1⟩ := g 1 (by omega)
    obtain ⟨y2, e2⟩ := g 2 (by omega)
    obtain ⟨y3, e3⟩ := g 3 (by omega)
    obtain ⟨y4, e4⟩ := g 4 (by omega)
    rw [e0] at f0; rw [e1] at f1; rw [e2] at f2; rw [e3] at f3; rw [e4] at f4
    obtain ⟨k, hk, _, wk⟩ := DataW.trod_int Tryz.underlying3 f0
    obtain ⟨k1, hk1, _, wk1⟩ := DataW.trod_int Tryz.underlying3 f1
    obtain ⟨o, v, ho, hoi⟩ := open_od f2
    obtain ⟨s, hs, _, ws⟩ := DataW.trod_string Tryz.underlying9 f3
    obtain ⟨s1, hs1, _, ws1⟩ := DataW.trod_string Tryz.underlying9 f4
    simp only [List.cons.injEq, and_true] at hk hk1 hs hs1
    subst hk hk1 hs hs1
    refine ⟨⟨k, k1, o, s, s1⟩, v, ?_, hoi, bounds_i64 wk, bounds_i64 wk1, ws, ws1⟩
    unfold Op12.cs
    simp only
    rw [← ho]
    rfl
/-- steps that came in -/
theorem open_ops {fuel : Nat} {cs : List Value} {x : DataW H × List MemPlace} (h : DataW.trod enc Tryz.prog w base spare held fuel 22 cs = some x) :
    ∃ (A : Option Addr) (c : Nat) (l : List Op12), cs = [.slice A l.length c] ∧ OpsS w w (Lt w.heap.size) A l ∧ l.length ≤ c ∧ c ≤ maxLen := by
  obtain ⟨A, c, cells, l, h1, h2, h3, h4, h5⟩ := open_each (OpR w) Tryz.underlying22 (size := 14) (by kernel_rfl) (by omega) (fun n cs x hx => open_op12 hx) h
  exact ⟨A, c, l, h1, ⟨cells, h2, h5⟩, h3, h4⟩
end

theorem own_put2 {w : World} {t : TypeId} {size g n c : Nat} {xs : List Value} (h : Own w t size (.slice (some ⟨g, 0, none⟩) n c) n xs) (i : Nat) (hi : i < xs.length) (v : Value) :
    Own (w.setCell ⟨g, i, none⟩ v) t size (.slice (some ⟨g, 0, none⟩) n c) n (xs.set i v) ∧ w.cell? ⟨g, i, none⟩ = xs[i]? ∧ w.frozen? ⟨g, i, none⟩ = false := by
  obtain ⟨h1, h2⟩ := h
  rcases h2 with ⟨hv, h0⟩ | ⟨g', cap, cur, hv, hg, hn, hm, hs, ht⟩
  · cases hv
  · injection hv with hA hn2 hc
    injection hA with hA
    injection hA with hA
    subst hA hc
    have hg : Blk w g t cur := hg
    refine ⟨⟨by rw [List.length_set]; exact h1, .inr ⟨g, c, _, rfl, hg.set_ i v, hn, hm, by rw [Array.size_setIfInBounds]; exact hs, ?_⟩⟩, ?_, hg.frozen i⟩
    · rw [Array.toList_setIfInBounds, List.take_set, ht]
    · rw [hg.cell i, ← ht, List.getElem?_take_of_lt (by rw [h1] at hi; exact hi), Array.getElem?_toList]
/-! ### the document's desk in memory -/
theorem elRd : El Tryz.prog 28 58 3 40 := ⟨Tryz.underlying28, by
  have h : (Tryz.prog.info? 58).map (fun i => (i.zero, i.size, i.bytes)) = some (some (.agg #[.string ⟨#[]⟩, .string ⟨#[]⟩, .int .i64 0]), 3, 40) := by kernel_rfl
  obtain ⟨i, hi, hz, hs, hb⟩ := info_parts h
  exact ⟨i, _, hi, hz, hs, hb, rfl⟩, by omega⟩
/-- the desk at p: its orders, its readers; nothing of it lies below B -/
structure Dk2 (w0 w : World) (B p : Nat) (vL vR : Value) (l : List Od) (R : List Rd2) : Prop where
  blk : Blk w p 30 #[vL, vR]
  rowL : OwnO w0 w vL l
  rowR : Own w 58 3 vR R.length (rdsC R)
  bp : B ≤ p
  bL : ∀ k, vL.ownBlock = some k → B ≤ k
  bR : ∀ k, vR.ownBlock = some k → B ≤ k
  sz : ∀ r ∈ R, r.nm.size ≤ maxLen ∧ r.ac.size ≤ maxLen
/-- blocks by their types -/
def TyS (P : TypeId → Prop) (w : World) (k : Nat) : Prop := ∃ t cs, Blk w k t cs ∧ P t
theorem TyS.trans {P : TypeId → Prop} {a b c : World} (h : Fr (TyS P a) a b) (k : Fr (TyS P b) b c) : Fr (TyS P a) a c :=
  h.trans' k fun i hi hlt => by
    by_cases e : TyS P a i
    · exact e
    · obtain ⟨t, cs, hb, hp⟩ := hi
      refine ⟨t, cs, ?_, hp⟩
      unfold Blk at hb ⊢
      rw [← h.block i hlt e]
      exact hb
theorem TyS.no {P : TypeId → Prop} {a b : World} (h : Fr No a b) : Fr (TyS P a) a b := h.mono fun _ _ h => False.elim h
/-- its blocks, by their types -/
def Ty2 : World → Nat → Prop := TyS fun t => t = 30 ∨ t = 35 ∨ t = 58
/-- .. that lie not below B -/
def T2 (B : Nat) (w : World) (k : Nat) : Prop := Ty2 w k ∧ B ≤ k
theorem T2.trans {B : Nat} {a b c : World} (h : Fr (T2 B a) a b) (k : Fr (T2 B b) b c) : Fr (T2 B a) a c :=
  h.trans' k fun i ⟨hi, hB⟩ hlt => by
    refine ⟨?_, hB⟩
    by_cases e : T2 B a i
    · exact e.1
    · obtain ⟨t, cs, hb, hp⟩ := hi
      refine ⟨t, cs, ?_, hp⟩
      unfold Blk at hb ⊢
      rw [← h.block i hlt e]
      exact hb
theorem T2.no {B : Nat} {a b : World} (h : Fr No a b) : Fr (T2 B a) a b := h.mono fun _ _ h => False.elim h
section
variable {w0 w w' : World} {B p : Nat} {vL vR : Value} {l : List Od} {R : List Rd2}
theorem Dk2.tyP (h : Dk2 w0 w B p vL vR l R) : Ty2 w p := ⟨_, _, h.blk, .inl rfl⟩
theorem Dk2.tyL (h : Dk2 w0 w B p vL vR l R) : ∀ k, vL.ownBlock = some k → Ty2 w k := fun k hk => by
  obtain ⟨cells, ho, _⟩ := h.rowL
  obtain ⟨cur, hc⟩ := ho.blk k hk
  exact ⟨_, _, hc, .inr (.inl rfl)⟩
theorem Dk2.tyR (h : Dk2 w0 w B p vL vR l R) : ∀ k, vR.ownBlock = some k → Ty2 w k := fun k hk => by
  obtain ⟨cur, hc⟩ := h.rowR.blk k hk
  exact ⟨_, _, hc, .inr (.inr rfl)⟩
theorem OwnO.fr {S : Nat → Prop} {v : Value} (h : OwnO w0 w v l) (hf : Fr S w w') (hn : ∀ k, v.ownBlock = some k → ¬ S k) : OwnO w0 w' v l := by
  obtain ⟨cells, ho, hE⟩ := h
  exact ⟨cells, ho.fr hf hn, hE⟩
theorem Dk2.fr {S : Nat → Prop} (h : Dk2 w0 w B p vL vR l R) (hf : Fr S w w') (hn : ∀ k, Ty2 w k → ¬ S k) : Dk2 w0 w' B p vL vR l R :=
  ⟨h.blk.fr hf (hn _ h.tyP), h.rowL.fr hf fun k hk => hn k (h.tyL k hk), h.rowR.fr hf fun k hk => hn k (h.tyR k hk), h.bp, h.bL, h.bR, h.sz⟩
theorem Dk2.no (h : Dk2 w0 w B p vL vR l R) (hf : Fr No w w') : Dk2 w0 w' B p vL vR l R := h.fr hf fun _ _ h => h
/-- the program's desk is apart -/
theorem DkS.ty {d : Dp} {f : List UInt8 → Option Value} {N : Nat} {b : Bk} {E : List UInt8 → List Ev} {k : Nat} {g : List UInt8 → Option Rdr} (h : DkS w d f N b E k g) {i : Nat} (hi : Ty2 w i) : ¬ d.all f i := by
  obtain ⟨c, hc, hv⟩ := h.ev
  obtain ⟨t, cs, hb, ht⟩ := hi
  have h1 : t ≠ 75 := by rcases ht with rfl | rfl | rfl <;> decide
  have h2 : t ≠ 71 := by rcases ht with rfl | rfl | rfl <;> decide
  have h3 : t ≠ 108 := by rcases ht with rfl | rfl | rfl <;> decide
  have h4 : t ≠ 135 := by rcases ht with rfl | rfl | rfl <;> decide
  have h5 : t ≠ 138 := by rcases ht with rfl | rfl | rfl <;> decide
  rintro (e | e | e | e)
  · exact Blk.ne_ hb h.blk h1 e
  · rcases e with e | e | e | e | e
    · exact Blk.ne_ hb h.bk.blk h3 e
    · exact Blk.ne_ hb h.bk.ch.1 h4 e
    · exact h.bk.ch.2.ne_ hb e.symm
    · exact Blk.ne_ hb h.bk.hd.1 h5 e
    · exact h.bk.hd.2.ne_ hb e.symm
  · exact hv.far hb h2 e
  · exact h.rd.ne_ hb e.symm
theorem Dk2.prog {d : Dp} {f : List UInt8 → Option Value} {N : Nat} {b : Bk} {E : List UInt8 → List Ev} {k : Nat} {g : List UInt8 → Option Rdr} (h : Dk2 w0 w B p vL vR l R) (hd : DkS w d f N b E k g) {S : Nat → Prop} (hf : Fr S w w') (hS : ∀ i, S i → d.all f i) : Dk2 w0 w' B p vL vR l R :=
  h.fr hf fun i hi hs => hd.ty hi (hS i hs)
theorem DkS.ref2 {d : Dp} {f : List UInt8 → Option Value} {N : Nat} {b : Bk} {E : List UInt8 → List Ev} {k : Nat} {g : List UInt8 → Option Rdr} (hd : DkS w d f N b E k g) (hf : Fr (T2 B w) w w') : DkS w' d f N b E k g :=
  hd.fr hf fun i hi hs => hd.ty hs.1 hi
end
/-! ### the desk's rows change -/
section
variable {w0 w w7 : World} {B p : Nat} {vL vR v7 : Value} {l l' : List Od} {R R' : List Rd2}
theorem Dk2.newR (h : Dk2 w0 w B p vL vR l R) (ho : Own w7 58 3 v7 R'.length (rdsC R')) (hf : Fr (AtO vR.ownBlock) w w7) (hn : v7.ownBlock = vR.ownBlock ∨ ∃ k, v7.ownBlock = some k ∧ w.heap.size ≤ k) (hB : B ≤ w.heap.size) (hs : ∀ r ∈ R', r.nm.size ≤ maxLen ∧ r.ac.size ≤ maxLen) :
    Dk2 w0 (w7.setCell ⟨p, 1, none⟩ v7) B p vL v7 l R' ∧ Fr (T2 B w) w (w7.setCell ⟨p, 1, none⟩ v7) := by
  have hf1 := fr_set w7 p 1 v7
  have hp7 : v7.ownBlock ≠ some p := fun e => by
    rcases hn with e2 | ⟨k, e2, hk⟩
    · exact h.rowR.ne_ h.blk (by decide) (e2 ▸ e)
    · rw [e2] at e; injection e with e; have := h.blk.lt; omega
  have hLR : ∀ k, vL.ownBlock = some k → vR.ownBlock ≠ some k := fun k hk => by
    obtain ⟨cells, ho2, _⟩ := h.rowL
    obtain ⟨cur, hc⟩ := ho2.blk k hk
    exact h.rowR.ne_ hc (by decide)
  have hLp : ∀ k, vL.ownBlock = some k → k ≠ p := fun k hk e => by
    obtain ⟨cells, ho2, _⟩ := h.rowL
    subst e
    exact ho2.ne_ h.blk (by decide) hk
  refine ⟨⟨(h.blk.fr hf fun e => h.rowR.ne_ h.blk (by decide) e).set_ 1 v7, (h.rowL.fr hf fun k hk e => hLR k hk e).fr hf1 fun k hk e => hLp k hk e, ho.fr hf1 fun k hk e => hp7 ((show k = p from e) ▸ hk), h.bp, h.bL, fun k hk => ?_, hs⟩, ?_⟩
  · rcases hn with e2 | ⟨k2, e2, hk2⟩
    · exact h.bR k (e2 ▸ hk)
    · rw [e2] at hk; injection hk with hk; omega
  · refine (hf.mono fun k _ hk => (⟨h.tyR k hk, h.bR k hk⟩ : T2 B w k)).trans' hf1 fun k hk _ => ?_
    have e : k = p := hk
    subst e
    exact ⟨h.tyP, h.bp⟩
theorem Dk2.newL (h : Dk2 w0 w B p vL vR l R) (ho : OwnO w0 w7 v7 l') (hf : Fr (AtO vL.ownBlock) w w7) (hn : v7.ownBlock = vL.ownBlock ∨ ∃ k, v7.ownBlock = some k ∧ w.heap.size ≤ k) (hB : B ≤ w.heap.size) :
    Dk2 w0 (w7.setCell ⟨p, 0, none⟩ v7) B p v7 vR l' R ∧ Fr (T2 B w) w (w7.setCell ⟨p, 0, none⟩ v7) := by
  have hf1 := fr_set w7 p 0 v7
  obtain ⟨cells, ho2, _⟩ := h.rowL
  have hp7 : ∀ k, v7.ownBlock = some k → k ≠ p := fun k hk e => by
    subst e
    rcases hn with e2 | ⟨k2, e2, hk2⟩
    · exact ho2.ne_ h.blk (by decide) (e2 ▸ hk)
    · rw [e2] at hk; injection hk with hk; have := h.blk.lt; omega
  have hRL : ∀ k, vR.ownBlock = some k → vL.ownBlock ≠ some k := fun k hk => by
    obtain ⟨cur, hc⟩ := h.rowR.blk k hk
    exact ho2.ne_ hc (by decide)
  have hRp : ∀ k, vR.ownBlock = some k → k ≠ p := fun k hk e => by
    subst e
    exact h.rowR.ne_ h.blk (by decide) hk
  refine ⟨⟨(h.blk.fr hf fun e => ho2.ne_ h.blk (by decide) e).set_ 0 v7, ho.fr hf1 fun k hk e => hp7 k hk e, (h.rowR.fr hf fun k hk e => hRL k hk e).fr hf1 fun k hk e => hRp k hk e, h.bp, fun k hk => ?_, h.bR, h.sz⟩, ?_⟩
  · rcases hn with e2 | ⟨k2, e2, hk2⟩
    · exact h.bL k (e2 ▸ hk)
    · rw [e2] at hk; injection hk with hk; omega
  · refine (hf.mono fun k _ hk => (⟨h.tyL k hk, h.bL k hk⟩ : T2 B w k)).trans' hf1 fun k hk _ => ?_
    have e : k = p := hk
    subst e
    exact ⟨h.tyP, h.bp⟩
/-- a reader has moved -/
theorem Dk2.moved (h : Dk2 w0 w B p vL vR l R) {g n c k : Nat} (hv : vR = .slice (some ⟨g, 0, none⟩) n c) (hk : k < R.length) (t : Nat) :
    Dk2 w0 (w.setCell ⟨g, k * 3 + 2, none⟩ (.int .i64 (t : Int))) B p vL vR l (R.set k ⟨R[k].nm, R[k].ac, t⟩) ∧ Fr (T2 B w) w (w.setCell ⟨g, k * 3 + 2, none⟩ (.int .i64 (t : Int))) ∧ w.frozen? ⟨g, k * 3 + 2, none⟩ = false := by
  subst hv
  have hn : n = R.length := by
    obtain ⟨A, c', e, _, _⟩ := h.rowR.form
    injection e
  subst hn
  have hf1 := fr_set w g (k * 3 + 2) (.int .i64 (t : Int))
  obtain ⟨o1, z0, z1⟩ := own_put2 h.rowR (k * 3 + 2) (by rw [rdsC_length]; omega) (.int .i64 (t : Int))
  rw [rdsC_set R k hk t] at o1
  have hg : T2 B w g := ⟨h.tyR g rfl, h.bR g rfl⟩
  obtain ⟨cells, ho2, _⟩ := h.rowL
  refine ⟨⟨h.blk.fr hf1 fun e => h.rowR.ne_ h.blk (by decide) (congrArg some (show p = g from e).symm), h.rowL.fr hf1 fun k hk e => ?_, ?_, h.bp, h.bL, h.bR, fun r hr => ?_⟩, hf1.mono fun k _ e => by have e : k = g := e; subst e; exact hg, z1⟩
  · have e : k = g := e
    subst e
    obtain ⟨cur, hc⟩ := h.rowR.blk k rfl
    exact ho2.ne_ hc (by decide) hk
  · rw [List.length_set]; exact o1
  · rcases List.mem_or_eq_of_mem_set hr with h1 | h1
    · exact h.sz r h1
    · subst h1
      exact h.sz R[k] (List.getElem_mem hk)
end
end Go.Proofs.YtjbeaoabhhaiiaaGreat

set_option linter.unusedSimpArgs false
set_option linter.unusedVariables false
namespace Go.My
open Go Go.RowKit Go.Sort Go.Lib Go.Proofs

theorem before_eq : ∀ (x y : List UInt8), bytesBefore x y = decide (x < y)
  | [], [] => by simp [bytesBefore]
  | _ :: _, [] => by simp [bytesBefore]
  | [], _ :: _ => by simp [bytesBefore]
  | a :: x, b :: y => by
    rw [bytesBefore, before_eq x y]
    simp only [List.cons_lt_cons_iff]
    by_cases h1 : a < b <;> by_cases h2 : a = b <;> by_cases h3 : x < y <;> simp [h1, h2, h3]
theorem ins_new {O : List (List UInt8)} {x : List UInt8} {k : Nat} (hU : Up O) (hk : k ≤ O.length) (hall : ∀ i (h : i < O.length), k ≤ i → bytesBefore x O[i] = true)
    (hno : ∀ (_ : 0 < k) (h2 : k - 1 < O.length), bytesBefore x O[k - 1] = false ∧ O[k - 1] ≠ x) : Up (O.take k ++ x :: O.drop k) ∧ ∀ s, s ∈ O.take k ++ x :: O.drop k ↔ s ∈ O ∨ s = x := by
  constructor
  · unfold Up
    rw [List.pairwise_append]
    refine ⟨hU.sublist (List.take_sublist _ _), ?_, ?_⟩
    · rw [List.pairwise_cons]
      refine ⟨fun y hy => ?_, hU.sublist (List.drop_sublist _ _)⟩
      obtain ⟨i, hi, rfl⟩ := List.mem_iff_getElem.1 hy
      rw [List.getElem_drop]
      have h := hall (k + i) (by rw [List.length_drop] at hi; omega) (by omega)
      rw [before_eq] at h
      exact of_decide_eq_true h
    · intro a ha b hb
      have hlt : a < x := by
        obtain ⟨i, hi, rfl⟩ := List.mem_iff_getElem.1 ha
        rw [List.length_take] at hi
        rw [List.getElem_take]
        obtain ⟨h1, h2⟩ := hno (by omega) (by omega)
        rw [before_eq] at h1
        have h3 : O[k - 1] < x := str_le_ne (List.not_lt.1 (of_decide_eq_false h1)) h2
        by_cases e : i = k - 1
        · subst e; exact h3
        · exact str_trans (List.pairwise_iff_getElem.1 hU i (k - 1) (by omega) (by omega) (by omega)) h3
      rcases List.mem_cons.1 hb with rfl | hb
      · exact hlt
      · obtain ⟨i, hi, rfl⟩ := List.mem_iff_getElem.1 hb
        rw [List.getElem_drop]
        have h := hall (k + i) (by rw [List.length_drop] at hi; omega) (by omega)
        rw [before_eq] at h
        exact str_trans hlt (of_decide_eq_true h)
  · intro s
    rw [List.mem_append, List.mem_cons]
    constructor
    · rintro (h | h | h)
      · exact .inl (List.mem_of_mem_take h)
      · exact .inr h
      · exact .inl (List.mem_of_mem_drop h)
    · rintro (h | h)
      · rw [← List.take_append_drop k O, List.mem_append] at h
        rcases h with h | h
        · exact .inl h
        · exact .inr (.inr h)
      · exact .inr (.inl h)
/-- the names of N's first i texts, in order -/
def InO (N : List (List UInt8)) (i : Nat) (O : List (List UInt8)) : Prop := Up O ∧ ∀ s, s ∈ O ↔ s ∈ N.take i ∧ s ≠ []
theorem InO.start (N : List (List UInt8)) : InO N 0 [] := ⟨List.Pairwise.nil, fun s => by simp⟩
theorem mem_take_next {N : List (List UInt8)} {i : Nat} (hi : i < N.length) (s : List UInt8) : s ∈ N.take (i + 1) ↔ s ∈ N.take i ∨ s = N[i] := by
  rw [List.take_succ_eq_append_getElem hi, List.mem_append, List.mem_singleton]
theorem InO.empty {N O : List (List UInt8)} {i : Nat} (h : InO N i O) (hi : i < N.length) (hx : N[i] = []) : InO N (i + 1) O := ⟨h.1, fun s => by
  rw [h.2 s, mem_take_next hi]
  constructor
  · rintro ⟨a, b⟩; exact ⟨.inl a, b⟩
  · rintro ⟨a | a, b⟩
    · exact ⟨a, b⟩
    · rw [hx] at a; exact absurd a b⟩
theorem InO.there {N O : List (List UInt8)} {i : Nat} (h : InO N i O) (hi : i < N.length) (hx : N[i] ∈ O) : InO N (i + 1) O := ⟨h.1, fun s => by
  rw [h.2 s, mem_take_next hi]
  constructor
  · rintro ⟨a, b⟩; exact ⟨.inl a, b⟩
  · rintro ⟨a | a, b⟩
    · exact ⟨a, b⟩
    · subst a; exact (h.2 _).1 hx⟩
theorem InO.put {N O : List (List UInt8)} {i k : Nat} (h : InO N i O) (hi : i < N.length) (hn : N[i] ≠ []) (hk : k ≤ O.length) (hall : ∀ j (h : j < O.length), k ≤ j → bytesBefore N[i] O[j] = true)
    (hno : ∀ (_ : 0 < k) (h2 : k - 1 < O.length), bytesBefore N[i] O[k - 1] = false ∧ O[k - 1] ≠ N[i]) : InO N (i + 1) (O.take k ++ N[i] :: O.drop k) := by
  obtain ⟨h1, h2⟩ := ins_new h.1 hk hall hno
  refine ⟨h1, fun s => ?_⟩
  rw [h2 s, h.2 s, mem_take_next hi]
  constructor
  · rintro (⟨a, b⟩ | a)
    · exact ⟨.inl a, b⟩
    · subst a; exact ⟨.inr rfl, hn⟩
  · rintro ⟨a | a, b⟩
    · exact .inl ⟨a, b⟩
    · exact .inr a
theorem InO.done {N O : List (List UInt8)} {i : Nat} (h : InO N i O) (hi : N.length ≤ i) : O = upOf (N.filter fun s => !s.isEmpty) := by
  refine upOf_eq h.1 fun s => ?_
  rw [h.2 s, List.take_of_length_le hi, List.mem_filter]
  cases s <;> simp
theorem InO.length {N O : List (List UInt8)} {i : Nat} (h : InO N i O) : O.length ≤ N.length := by
  have e : O = upOf ((N.take i).filter fun s => !s.isEmpty) := upOf_eq h.1 fun s => by
    rw [h.2 s, List.mem_filter]
    cases s <;> simp
  rw [e]
  refine Nat.le_trans (upOf_length _) (Nat.le_trans (List.length_filter_le _ _) ?_)
  rw [List.length_take]
  omega
end Go.My
namespace Go.Proofs.YtjbeaoabhhaiiaaGreat
open Go.RowKit Go.My Go.Maps Go.Sort Go.Lib
set_option linter.unusedSimpArgs false
set_option linter.unusedVariables false
attribute [local go_sem ↓] Go.wp_at_zero Go.wp_at_succ

def StRel (w : World) (L M : List (List UInt8)) (iv : Value) (wr : World) : Prop := ∃ k : Nat, k ≤ L.length ∧ iv = .int .i64 k ∧ L.take k = M.take k ∧ Fr No w wr
def sameL (L M : List (List UInt8)) : Bool := decide (L = M)
theorem Own.rdN {w : World} {t : TypeId} {A : Option Addr} {n c : Nat} {xs : List Value} (h : Own w t 1 (.slice A n c) n xs) : Rd w (fun _ => True) 1 A n xs := h.rd.more (fun _ _ => True.intro)
def T2Rel (w6 : World) (N : List (List UInt8)) (ov iv : Value) (wr : World) : Prop :=
  ∃ i A c O, i ≤ N.length ∧ iv = .int .i64 (i : Nat) ∧ InO N i O ∧ ov = .slice A O.length c ∧ O.length ≤ c ∧ c ≤ maxLen ∧ Own wr 9 1 (.slice A O.length c) O.length (ts O) ∧ Fr No w6 wr ∧ Newer w6.heap.size none (Value.slice A O.length c).ownBlock
def T3Rel (w7 : World) (O : List (List UInt8)) (x : List UInt8) (kv : Value) (wr : World) : Prop := ∃ k : Nat, k ≤ O.length ∧ kv = .int .i64 k ∧ (∀ j (h : j < O.length), k ≤ j → bytesBefore x O[j] = true) ∧ Fr No w7 wr
def T3End (w7 : World) (O : List (List UInt8)) (x : List UInt8) (kv : Value) (wr : World) : Prop := ∃ k : Nat, k ≤ O.length ∧ kv = .int .i64 k ∧ (∀ j (h : j < O.length), k ≤ j → bytesBefore x O[j] = true) ∧ (∀ (_ : 0 < k) (h2 : k - 1 < O.length), bytesBefore x O[k - 1] = false) ∧ Fr No w7 wr
set_option maxRecDepth 100000 in
set_option maxHeartbeats 8000000 in
theorem reftouches_any (F : Nat → Prop) (o : Od) (v : Value) (w : World) (hok : o.ok) (hgok : ∀ g ∈ o.legs, g.ok) (hv : LgS w F v o.legs) (hl : o.legs.length ≤ 100000) :
    Calls Tryz.prog 36 #[o.val v] w (RetOwn w 9 1 none (touchL o).length (ts (touchL o))) := by
  have hNok : ∀ s ∈ allN o o.legs.length, (⟨s.toArray⟩ : ByteArray).size ≤ maxLen := fun s hs => by
    unfold allN at hs
    rw [List.mem_append] at hs
    rcases hs with hs | hs
    · simp only [List.mem_cons, List.not_mem_nil, or_false] at hs
      rcases hs with rfl | rfl
      · exact hok.2.2.2.1
      · exact hok.2.2.2.2.1
    · obtain ⟨g, hg, rfl⟩ := List.mem_map.1 hs
      exact (hgok g (List.mem_of_mem_take hg)).1
  obtain ⟨ocl, osq, okd, oac, ope, osm, olg, opr, ohd, ont⟩ := o
  unfold Od.val Od.cs
  obtain ⟨vA, vc, cells, rfl, hr, hE, hlc, hcm⟩ := hv
  have hbk := Blk.new w 35 #[.int .i64 ocl, .int .i64 osq, .int .i64 okd, .string oac, .string ope, .int .i64 osm, .slice vA olg.length vc, .int .i64 opr, .int .i64 ohd, .string ont]
  have hf0 : Fr No w (w.alloc (.cells #[.int .i64 ocl, .int .i64 osq, .int .i64 okd, .string oac, .string ope, .int .i64 osm, .slice vA olg.length vc, .int .i64 opr, .int .i64 ohd, .string ont] 35)) := (Fr.refl _ _).alloc _
  simp only at hl hlc hE hr hNok ⊢
  have hx3 := hbk.cell 3
  have hx4 := hbk.cell 4
  simp only [List.getElem?_toArray, List.getElem?_cons_zero, List.getElem?_cons_succ] at hx3 hx4
  go_enter Tryz.func36, Tryz.ntmps36
  go_upto_region 1 with (fail)
  generalize hw1 : (w.alloc (.cells #[.int .i64 ocl, .int .i64 osq, .int .i64 okd, .string oac, .string ope, .int .i64 osm, .slice vA olg.length vc, .int .i64 opr, .int .i64 ohd, .string ont] 35)) = w1 at *
  clear hw1
  have HF := Lib.hid hf0
  have HR := Lib.hid (hr.fr (by omega) hf0 fun _ _ _ h => h)
  have HE := Lib.hid hE
  have HL := Lib.hid hl
  go_upto_region 2 with (fail)
  have hf1 : Fr No w1 (w1.alloc (.cells #[.string oac, .string ope] 9)) := (Fr.refl _ _).alloc _
  have ho := own_two w1 9 (.string oac) (.string ope)
  have hb2 := hbk.alloc (.cells #[.string oac, .string ope] 9)
  have hnew : Newer w1.heap.size none (Value.slice (some ⟨w1.heap.size, 0, none⟩) 2 2).ownBlock := .inr ⟨_, rfl, Nat.le_refl _⟩
  generalize hw2 : w1.alloc (.cells #[.string oac, .string ope] 9) = w2 at *
  clear hw2 hx3 hx4
  have HBK := Lib.hid hbk
  have H0 : Hid (TcRel w1 ⟨ocl, osq, okd, oac, ope, osm, olg, opr, ohd, ont⟩ (.slice (some ⟨w1.heap.size, 0, none⟩) 2 2) (.int .i64 0) w2) :=
    ⟨0, some ⟨w1.heap.size, 0, none⟩, 2, Nat.zero_le _, rfl, rfl, by rw [show allN ⟨ocl, osq, okd, oac, ope, osm, olg, opr, ohd, ont⟩ 0 = [oac.data.toList, ope.data.toList] from rfl]; exact ho, hf1, hnew⟩
  have HNOK := Lib.hid hNok
  clear hr hE hf0 hf1 hl ho hnew hb2 hbk hNok hok hgok
  go_wp2_with fail
  go_loopw [3, 4] (fun v iv wr => TcRel w1 ⟨ocl, osq, okd, oac, ope, osm, olg, opr, ohd, ont⟩ v iv wr) (fun _ iv _ => olg.length - (intOf iv).toNat)
  case atStart => exact H0.out
  case round =>
    obtain ⟨k, A, c, hk, rfl, rfl, hown, hfr, hnew⟩ := hrel
    simp only at hk
    have x6 := (HBK.out.fr hfr (fun h => h)).cell 6
    simp only [List.getElem?_toArray, List.getElem?_cons_zero, List.getElem?_cons_succ] at x6
    by_cases hlt : k < olg.length
    · obtain ⟨ad, rfl, _, hok, q0, q1⟩ := lg_at (HR.out.fr (by omega) hfr fun _ _ _ h => h) HE.out k hlt hlt
      have HAN : Hid (allN ⟨ocl, osq, okd, oac, ope, osm, olg, opr, ohd, ont⟩ (k + 1) = allN ⟨ocl, osq, okd, oac, ope, osm, olg, opr, ohd, ont⟩ k ++ [olg[k].nm]) := allN_next _ k hlt
      generalize olg[k] = g at *
      obtain ⟨nm, sm⟩ := g
      simp only at q0 q1
      have HOWN := Lib.hid hown
      have HFR := Lib.hid hfr
      have HNEW := Lib.hid hnew
      have HLT : Hid (k + 1 ≤ olg.length) := hlt
      have hk62 : (k : Int) < 9223372036854775807 := by have := HL.out; omega
      have HBD : Hid (2 + k + 1 ≤ maxLen ∧ (2 + k + 1) * 16 ≤ 140737488355328) := ⟨by have := HL.out; unfold maxLen; omega, by have := HL.out; omega⟩
      clear hown hfr hnew hok
      go_wp2_with (at_builtin; refine wpList_app _ rfl (.tmp 20) (.tmp 27) 59 59 rfl elS (HOWN.out.alloc _) rfl (Src.of_new wr.heap.size (heap_alloc_new wr _) Tryz.underlying59 rfl (by simp [Value.oneCell'])) rfl HBD.out.1 HBD.out.2 ?_; intro v1 w6 hown1 hfr1 hnew1)
      go_roundw
      case rel =>
        obtain ⟨A1, c1, rfl, _, _⟩ := hown1.form
        have hfo := (Fr.refl No wr).alloc (.cells #[.string nm] 9)
        have := HLT.out
        refine ⟨k + 1, A1, c1, by simp only; omega, by simp only [Nat.add_assoc], by go_num, ?_, ?_, ?_⟩
        · rw [HAN.out, ts_append, ← Nat.add_assoc]
          exact hown1
        · exact fr_no (HFR.out.trans hfo) HNEW.out hfr1
        · rw [← Nat.add_assoc]
          refine HNEW.out.trans (Newer.of hnew1) ?_
          have := HFR.out.size
          simp
          omega
      case measure => have := HLT.out; simp [intOf]; omega
    · obtain rfl : k = olg.length := by omega
      have hlen : (allN ⟨ocl, osq, okd, oac, ope, osm, olg, opr, ohd, ont⟩ olg.length).length = 2 + olg.length := allN_length _ _ (Nat.le_refl _)
      have HDN : Hid (∀ O, InO (allN ⟨ocl, osq, okd, oac, ope, osm, olg, opr, ohd, ont⟩ olg.length) (allN ⟨ocl, osq, okd, oac, ope, osm, olg, opr, ohd, ont⟩ olg.length).length O → O = touchL ⟨ocl, osq, okd, oac, ope, osm, olg, opr, ohd, ont⟩) := fun O hO => hO.done (Nat.le_refl _)
      generalize touchL ⟨ocl, osq, okd, oac, ope, osm, olg, opr, ohd, ont⟩ = T at *
      generalize allN ⟨ocl, osq, okd, oac, ope, osm, olg, opr, ohd, ont⟩ olg.length = N at *
      rw [← hlen] at hown
      have hNl : N.length ≤ 100002 := by have := HL.out; omega
      have HOWN := Lib.hid hown
      have HFW := Lib.hid (HF.out.trans hfr)
      rw [← hlen]
      clear hown hfr hnew hlen hk hlt HBK H0 HE HR HF HL
      generalize wr = w6 at *
      go_wp2_with fail
      go_loopw [5, 6] (fun ov iv wr => T2Rel w6 N ov iv wr) (fun _ iv _ => N.length - (intOf iv).toNat)
      case atStart => exact ⟨0, none, 0, [], Nat.zero_le _, rfl, InO.start N, rfl, Nat.le_refl _, by decide, Own.nil _ _ _, Fr.refl _ _, .inl rfl⟩
      case round =>
        obtain ⟨i, An, cn, O, hi, rfl, hin, rfl, hnc, hncm, hown, hfr, hnew⟩ := hrel
        have hk62 : (i : Int) < 9223372036854775807 := by omega
        by_cases hlt : i < N.length
        · obtain ⟨ad, hl1, rfl, _, q0⟩ := ts_at (HOWN.out.fr hfr (fun _ _ h => h)).rd i hlt
          have HCL : Hid (∀ W, Fr No wr W → Fr No wr W ∧ W.cell? (ad.add i) = some (.string ⟨(N[i]).toArray⟩)) := fun W hW => ⟨hW, hW.cell_some q0 (fun h => h)⟩
          have HLT : Hid (i + 1 ≤ N.length) := hlt
          have hOl := hin.length
          have HEMP : Hid (N[i] = [] → InO N (i + 1) O) := fun h => hin.empty hlt h
          have HTHERE : Hid (N[i] ∈ O → InO N (i + 1) O) := fun h => hin.there hlt h
          have HPUT : Hid (∀ k, N[i] ≠ [] → k ≤ O.length → (∀ j (h : j < O.length), k ≤ j → bytesBefore N[i] O[j] = true) → (∀ (_ : 0 < k) (h2 : k - 1 < O.length), bytesBefore N[i] O[k - 1] = false ∧ O[k - 1] ≠ N[i]) → InO N (i + 1) (O.take k ++ N[i] :: O.drop k)) := fun k h1 h2 h3 h4 => hin.put hlt h1 h2 h3 h4
          have HSX : Hid ((⟨(N[i]).toArray⟩ : ByteArray).size ≤ maxLen) := HNOK.out _ (List.getElem_mem hlt)
          have HSO : Hid (∀ s ∈ O, (⟨s.toArray⟩ : ByteArray).size ≤ maxLen) := fun s hs => HNOK.out s (List.mem_of_mem_take ((hin.2 s).1 hs).1)
          generalize N[i] = lo at *
          have HOW := Lib.hid hown
          have HFR := Lib.hid hfr
          have HNEW := Lib.hid hnew
          have HCN := Lib.hid hncm
          have HNC := Lib.hid hnc
          have HOL := Lib.hid hOl
          obtain ⟨w3, rfl⟩ : ∃ w3 : World, w3 = wr := ⟨_, rfl⟩
          clear hown hfr hnew hin hncm
          go_upto_block 4 with (fail)
          clear q0
          go_cut [7] (fun a7 wx => T3End w3 O lo a7 wx)
          case first =>
            go_wp2_with fail
            go_loopw [7] (fun jv wr => T3Rel w3 O lo jv wr) (fun jv _ => (intOf jv).toNat)
            case atStart => exact ⟨O.length, Nat.le_refl _, rfl, fun i h h' => absurd h' (by omega), Fr.refl _ _⟩
            case round =>
              obtain ⟨j, hj, rfl, hall, hfr⟩ := hrel
              have HALL := Lib.hid hall
              have HFR3 := Lib.hid hfr
              obtain ⟨_, q0⟩ := HCL.out _ hfr
              clear hall hfr
              by_cases hj0 : 0 < j
              · obtain ⟨j1, hj1⟩ : ∃ j1, j = j1 + 1 := ⟨j - 1, by omega⟩
                have hjl : j1 < O.length := by omega
                obtain ⟨sd, hl2, rfl, _, r0⟩ := ts_at (HOW.out.rd.fr (by omega) HFR3.out (fun _ _ _ h => h)) j1 hjl
                have hjj : (j : Int) - 1 = (j1 : Int) := by omega
                have hgt : (0 : Int) < (j : Int) := by omega
                have hd0 : decide ((0 : Int) < (j : Int)) = true := decide_eq_true hgt
                have hwj : IntKind.i64.wrap ((j : Int) - 1) = (j1 : Int) := by rw [hjj]; exact IntWalk.i64_in _ (by omega)
                have hsz : (⟨(O[j1]).toArray⟩ : ByteArray).size ≤ maxLen := HSO.out _ (List.getElem_mem hjl)
                have HAH : Hid (∀ n, Calls Tryz.prog 58 #[.string ⟨lo.toArray⟩, .string ⟨(O[j1]).toArray⟩] (wr.drewN n) fun e w' => e = .returned (.bool (bytesBefore lo O[j1])) ∧ ∃ m, w' = (wr.drewN n).drewN m) := fun n => refahead_any ⟨lo.toArray⟩ ⟨(O[j1]).toArray⟩ (wr.drewN n) HSX.out hsz
                have HNXT : Hid (bytesBefore lo O[j1] = true → ∀ i (h : i < O.length), j1 ≤ i → bytesBefore lo O[i] = true) := fun hbf i h hji => by
                  rcases Nat.eq_or_lt_of_le hji with e | e
                  · subst e; exact hbf
                  · exact HALL.out i h (by omega)
                have HNXF : Hid (bytesBefore lo O[j1] = false → ∀ (_ : 0 < j) (h2 : j - 1 < O.length), bytesBefore lo O[j - 1] = false) := fun hbf _ h2 => by
                  subst hj1
                  exact hbf
                generalize O[j1] = lj at *
                cases hbf : bytesBefore lo lj with
                | true =>
                  have HNX := Lib.hid (HNXT.out hbf)
                  rw [hbf] at HAH
                  have HJ1 := Lib.hid hj1
                  clear hbf hsz hj1
                  go_wp2_with fail
                  go_quiet ((go_at_call 58; exact Calls.quiet_of (HAH.out _)))
                  clear hwj
                  go_wp2
                  go_roundw
                  case rel => exact ⟨j1, by omega, by first | rfl | go_num, HNX.out, HFR3.out.drewN _⟩
                  case measure => simp [intOf]; omega
                | false =>
                  have HNX := Lib.hid (HNXF.out hbf)
                  rw [hbf] at HAH
                  clear hbf hsz hj1
                  go_wp2_with fail
                  go_quiet ((go_at_call 58; exact Calls.quiet_of (HAH.out _)))
                  go_wp2
                  go_meet
                  exact ⟨j, hj, rfl, HALL.out, HNX.out, HFR3.out.drewN _⟩
              · have hgt : ¬ (0 : Int) < (j : Int) := by omega
                have hd0 : decide ((0 : Int) < (j : Int)) = false := decide_eq_false hgt
                have hd1 : decide (0 < j) = false := decide_eq_false hj0
                have HNX : Hid (∀ (_ : 0 < j) (h2 : j - 1 < O.length), bytesBefore lo O[j - 1] = false) := fun h _ => absurd h hj0
                clear hj0
                go_wp2_with fail
                go_quiet (fail)
                go_wp2
                go_meet
                exact ⟨j, hj, rfl, HALL.out, HNX.out, HFR3.out.drewN _⟩
          case rest =>
            obtain ⟨j, hj, rfl, hall, hno, hfr⟩ := hcut
            obtain ⟨_, q0⟩ := HCL.out _ hfr
            obtain ⟨w4, rfl⟩ : ∃ w4 : World, w4 = wc := ⟨_, rfl⟩
            have HF4 := Lib.hid hfr
            have HO4 := Lib.hid (HOW.out.fr hfr (fun _ _ h => h))
            have HCL4 : Hid (∀ W, Fr No w4 W → W.cell? (ad.add i) = some (.string ⟨lo.toArray⟩)) := fun W hW => (HCL.out W (hfr.trans hW)).2
            clear hfr
            by_cases hemp : lo = []
            · have HIN := Lib.hid (HEMP.out hemp)
              subst hemp
              clear hall hno
              go_wp2_with fail
              go_quiet (fail)
              go_wp2
              go_roundw
              case rel => exact ⟨i + 1, An, cn, O, HLT.out, by go_num, HIN.out, rfl, HNC.out, HCN.out, HO4.out.drewN _, (HFR.out.trans HF4.out).drewN _, HNEW.out⟩
              case measure => have := HLT.out; simp [intOf]; omega
            have hne1 : (lo == []) = false := beq_eq_false_iff_ne.2 hemp
            have hne2 : ((⟨lo.toArray⟩ : ByteArray).toList == []) = false := by rw [ByteArray.toList_eq]; exact hne1
            by_cases hthere : 0 < j ∧ ∃ h2 : j - 1 < O.length, O[j - 1] = lo
            · obtain ⟨hj0, h2, hnm⟩ := hthere
              have HIN := Lib.hid (HTHERE.out (by rw [← hnm]; exact List.getElem_mem h2))
              obtain ⟨sd, hl2, rfl, _, r0⟩ := ts_at (HO4.out.rd) (j - 1) h2
              have hjz : ((j : Int) == 0) = false := beq_eq_false_iff_ne.2 (by omega)
              have hjz' : (j == 0) = false := beq_eq_false_iff_ne.2 (by omega)
              have hjj : (j : Int) - 1 = ((j - 1 : Nat) : Int) := by omega
              have hwj : IntKind.i64.wrap ((j : Int) - 1) = ((j - 1 : Nat) : Int) := by rw [hjj]; exact IntWalk.i64_in _ (by omega)
              have hj1 : ((j : Int) - 1).toNat = j - 1 := by omega
              have hj2 : (1 : Int) ≤ (j : Int) := by omega
              generalize O[j - 1] = lj at *
              subst hnm
              clear hall hno hemp
              generalize j - 1 = j1 at *
              go_wp2_with fail
              go_quiet (fail)
              clear hwj hjj hj1
              go_wp2
              go_roundw
              case rel => exact ⟨i + 1, some sd, cn, O, HLT.out, by go_num, HIN.out, rfl, HNC.out, HCN.out, HO4.out.drewN _, (HFR.out.trans HF4.out).drewN _, HNEW.out⟩
              case measure => have := HLT.out; simp [intOf]; omega
            · have hne : ∀ (h0 : 0 < j) (h2 : j - 1 < O.length), O[j - 1] ≠ lo := fun h0 h2 e => hthere ⟨h0, h2, e⟩
              have HIN := Lib.hid (HPUT.out j hemp hj hall (fun h0 h2 => ⟨hno h0 h2, hne h0 h2⟩))
              clear hemp
              go_upto_region 13 with (fail)
              go_cut [73] (fun a73 wx => a73 = .bool true ∧ Fr No w4 wx)
              case first =>
                by_cases hj0 : 0 < j
                · have h2 : j - 1 < O.length := by omega
                  obtain ⟨sd, hl2, rfl, _, r0⟩ := ts_at (HO4.out.rd) (j - 1) h2
                  have hjz : ((j : Int) == 0) = false := beq_eq_false_iff_ne.2 (by omega)
                  have hjz' : (j == 0) = false := beq_eq_false_iff_ne.2 (by omega)
                  have hjj : (j : Int) - 1 = ((j - 1 : Nat) : Int) := by omega
                  have hwj : IntKind.i64.wrap ((j : Int) - 1) = ((j - 1 : Nat) : Int) := by rw [hjj]; exact IntWalk.i64_in _ (by omega)
                  have hj1 : ((j : Int) - 1).toNat = j - 1 := by omega
                  have hj2 : (1 : Int) ≤ (j : Int) := by omega
                  have hnn := hne hj0 h2
                  generalize O[j - 1] = ln at *
                  generalize j - 1 = j1 at *
                  have hz1 : (ln != lo) = true := by rw [bne_iff_ne]; exact hnn
                  have hz0 : (ln == lo) = false := beq_eq_false_iff_ne.2 hnn
                  have hz2 : ((⟨ln.toArray⟩ : ByteArray).toList == (⟨lo.toArray⟩ : ByteArray).toList) = false := by rw [ByteArray.toList_eq, ByteArray.toList_eq]; exact hz0
                  clear hall hno hne hthere hnn
                  go_quiet (fail)
                  go_wp2
                  go_meet
                  exact ⟨rfl, (Fr.refl No w4).drewN _⟩
                · have hjz : ((j : Int) == 0) = true := by simp; omega
                  have hjz' : (j == 0) = true := by simp; omega
                  clear hall hno hne hthere hj0
                  go_quiet (fail)
                  go_wp2
                  go_meet
                  exact ⟨rfl, (Fr.refl No w4).drewN _⟩
              case rest =>
                obtain ⟨rfl, hf5⟩ := hcut
                obtain ⟨w5, rfl⟩ : ∃ w5 : World, w5 = wc := ⟨_, rfl⟩
                have HO5 := Lib.hid (HO4.out.fr hf5 (fun _ _ h => h))
                have HF5 := Lib.hid hf5
                have HCL5 : Hid (∀ W, Fr No w5 W → W.cell? (ad.add i) = some (.string ⟨lo.toArray⟩)) := fun W hW => HCL4.out W (hf5.trans hW)
                have hrd := HO5.out.rd
                have hrdT : Rd w5 (fun k' => (Value.slice An O.length cn).ownBlock = some k') 1 An j (ts (O.take j)) := by
                  have := hrd.take hj
                  rw [Nat.mul_one] at this
                  unfold ts at this ⊢
                  rwa [List.map_take]
                obtain ⟨X, hX⟩ : ∃ X, X = if cn = j then An else An.map (·.add j) := ⟨_, rfl⟩
                have hrdD : Rd w5 (fun k' => (Value.slice An O.length cn).ownBlock = some k') 1 X (O.length - j) (ts (O.drop j)) := by
                  have := hrd.cut (cap := cn) hj hnc
                  rw [Nat.mul_one] at this
                  rw [hX]
                  unfold ts at this ⊢
                  rwa [List.map_drop]
                have HST : Hid (∀ W c', Fr No w5 W → Src Tryz.prog W 1 59 (.slice An j c') j (ts (O.take j))) := fun W c' hW => Src.of_rd (hrdT.fr (by omega) hW fun _ _ _ h => h) (ts_one _) Tryz.underlying59
                have HSD : Hid (∀ W c', Fr No w5 W → Src Tryz.prog W 1 59 (.slice X (O.length - j) c') (O.length - j) (ts (O.drop j))) := fun W c' hW => Src.of_rd (hrdD.fr (by omega) hW fun _ _ _ h => h) (ts_one _) Tryz.underlying59
                have hjc : j ≤ cn := by omega
                have HMX : Hid (0 + j ≤ maxLen ∧ (0 + j) * 16 ≤ 140737488355328 ∧ j + 1 ≤ maxLen ∧ (j + 1) * 16 ≤ 140737488355328 ∧ j + 1 + (O.length - j) ≤ maxLen ∧ (j + 1 + (O.length - j)) * 16 ≤ 140737488355328) := by
                  have := HOL.out
                  refine ⟨?_, ?_, ?_, ?_, ?_, ?_⟩ <;> (try simp only [maxLen]) <;> omega
                have HLN : Hid (j + 1 + (O.length - j) = (O.take j ++ lo :: O.drop j).length ∧ ts (O.take j) ++ [.string ⟨lo.toArray⟩] ++ ts (O.drop j) = ts (O.take j ++ lo :: O.drop j)) := by
                  rw [ts_append, List.length_append, List.length_cons, List.length_take, List.length_drop]
                  refine ⟨by omega, ?_⟩
                  rw [List.append_assoc]
                  rfl
                generalize O.take j ++ lo :: O.drop j = Q at HIN HLN
                have HFW5 : Hid (Fr No w6 w5) := HFR.out.trans (HF4.out.trans hf5)
                have q0 := HCL5.out _ (Fr.refl No w5)
                have hncm := HCN.out
                unfold maxLen at hncm
                clear hall hno hne hthere hrd hrdT hrdD hf5
                have hdd : Fr No w5 w5.drew := (Fr.refl _ _).drew
                have HKP : Hid (∀ W, Fr No w5 W → (Fr No w5 W ∧ W.cell? (ad.add i) = some (.string ⟨lo.toArray⟩))) := fun W hW => ⟨hW, HCL5.out W hW⟩
                go_upto_region 14 with (fail)
                by_cases hck : cn = j
                focus
                  subst hck
                  rw [if_pos rfl] at hX
                  have hz0 : O.length - cn = 0 := by omega
                  rw [hz0] at HSD HMX HLN
                  clear hz0
                rotate_left
                focus rw [if_neg hck] at hX
                all_goals
                  subst hX
                  go_region_held_law (fun W => Fr No w5 W ∧ W.cell? (ad.add i) = some (.string ⟨lo.toArray⟩))
                    (exact HKP.out _ (by first | assumption | exact Fr.alloc (by assumption) _ | exact ((Fr.refl _ _).alloc _).drew)) (first
                    | (refine step_app _ rfl (.const (.slice none 0 0)) (.tmp 76) 59 59 rfl elS (Own.nil _ _ _) rfl (HST.out _ _ (by first | assumption | exact Fr.alloc (by assumption) _ | exact ((Fr.refl _ _).alloc _).drew)) rfl HMX.out.1 HMX.out.2.1 ?_; intro v6 w7 ho6 hf6 hn6; rw [Nat.zero_add, List.nil_append] at ho6
                       have hq6 : Fr No w5 w7 := Fr.trans (by first | assumption | exact Fr.alloc (by assumption) _ | exact ((Fr.refl _ _).alloc _).drew) (fr_at_none hf6)
                       have hB6 := hf6.block w5.heap.size
                       have hw6 : Newer w5.heap.size none v6.ownBlock := Newer.trans (.inl rfl) (Newer.of hn6) (by first | exact Nat.le_refl _ | (show w5.heap.size ≤ (w5.alloc _).heap.size; rw [World.size_alloc]; exact Nat.le_succ _)))
                    | (refine step_app _ rfl (.tmp 77) (.tmp 82) 59 59 rfl elS ho6 rfl (Src.of_new w5.heap.size (by rw [hB6 (by show _ < (w5.alloc _).heap.size; rw [World.size_alloc]; exact Nat.lt_succ_self _) (fun h => by cases h)]; exact heap_alloc_new w5 _) Tryz.underlying59 rfl (by simp [Value.oneCell'])) rfl HMX.out.2.2.1 HMX.out.2.2.2.1 ?_; intro v7 w8 ho7 hf7 hn7
                       have hq7 : Fr No w5 w8 := fr_no hq6 hw6 hf7
                       have hw7 : Newer w5.heap.size none v7.ownBlock := Newer.trans hw6 (Newer.of hn7) hq6.size)
                    | (refine step_app _ rfl (.tmp 77) (.tmp 82) 59 59 rfl elS (ho6.alloc _) rfl (Src.of_new w7.heap.size (heap_alloc_new _ _) Tryz.underlying59 rfl (by simp [Value.oneCell'])) rfl HMX.out.2.2.1 HMX.out.2.2.2.1 ?_; intro v7 w8 ho7 hf7 hn7
                       have hq7 : Fr No w5 w8 := fr_no (hq6.alloc _) hw6 hf7
                       have hw7 : Newer w5.heap.size none v7.ownBlock := Newer.trans hw6 (Newer.of hn7) (Nat.le_trans hq6.size (by simp)))
                    | (refine step_app _ rfl (.tmp 83) (.tmp 86) 59 59 rfl elS ho7 rfl (HSD.out _ _ hq7) rfl HMX.out.2.2.2.2.1 HMX.out.2.2.2.2.2 ?_; intro v8 w9 ho8 hf8 hn8
                       have hq8 : Fr No w5 w9 := fr_no hq7 hw7 hf8
                       have HN8 : Hid (Own w9 9 1 v8 Q.length (ts Q) ∧ Fr No w6 w9 ∧ Newer w6.heap.size none v8.ownBlock) := ⟨by rw [← HLN.out.1, ← HLN.out.2]; exact ho8, HFW5.out.trans (fr_no hq7 hw7 hf8), Newer.trans (.inl rfl) (hw7.trans (Newer.of hn8) hq7.size) HFW5.out.size⟩))
                  all_goals
                    have HN9 := Lib.hid HN8.out
                    clear ho6 ho7 ho8 hf6 hf7 hf8 hn6 hn7 hn8 hq6 hq7 hw6 hw7 hB6 HN8 q0 hq8
                    go_wp2
                    go_roundw
                    case rel =>
                      obtain ⟨g1, g2, g3⟩ := HN9.out
                      obtain ⟨A8, c8, rfl, h81, h82⟩ := g1.form
                      exact ⟨i + 1, A8, c8, _, HLT.out, by go_num, HIN.out, rfl, h81, h82, g1, g2, g3⟩
                    case measure => have := HLT.out; simp [intOf]; omega
        · obtain rfl : i = N.length := by omega
          obtain rfl := HDN.out O hin
          have HO := Lib.hid hown
          have HR2 := Lib.hid (HFW.out.trans hfr)
          have HNE := Lib.hid hnew
          have HSZ := Lib.hid HFW.out.size
          clear hown hfr hnew
          go_wp2
          go_ret
          exact ⟨_, rfl, HO.out, HR2.out.mono (fun _ _ h => (h : False).elim), Newer.trans (.inl rfl) HNE.out HSZ.out⟩
end Go.Proofs.YtjbeaoabhhaiiaaGreat

namespace Go.Proofs.YtjbeaoabhhaiiaaGreat
open Go.RowKit Go.My Go.Maps
set_option linter.unusedSimpArgs false
set_option linter.unusedVariables false
attribute [local go_sem ↓] Go.wp_at_zero Go.wp_at_succ

/-- a reader in memory -/
theorem rd2_at {w : World} {F : Nat → Prop} {A : Option Addr} {R : List Rd2} (h : Rd w F 3 A R.length (rdsC R)) (k : Nat) (hk : k < R.length) :
    ∃ ad, A = some ad ∧ F ad.block ∧ w.cell? (ad.add (k * 3)) = some (.string R[k].nm) ∧ w.cell? ⟨(ad.add (k * 3)).block, (ad.add (k * 3)).off + 1, none⟩ = some (.string R[k].ac) ∧
      w.cell? ⟨(ad.add (k * 3)).block, (ad.add (k * 3)).off + 2, none⟩ = some (.int .i64 (R[k].t : Int)) := by
  obtain ⟨ad, rfl, hF, hc⟩ := h.2 (by omega)
  refine ⟨ad, rfl, hF, hc (k * 3) _ (by have := rdsC_get R k 0 hk (by omega); rw [Nat.add_zero] at this; rw [this]; rfl), ?_, ?_⟩
  · rw [← add_lits ad (k * 3) 1 (by omega)]
    exact hc _ _ (by rw [rdsC_get R k 1 hk (by omega)]; rfl)
  · rw [← add_lits ad (k * 3) 2 (by omega)]
    exact hc _ _ (by rw [rdsC_get R k 2 hk (by omega)]; rfl)
variable {w0 w w' : World} {B p : Nat} {vL vR : Value} {l : List Od} {R : List Rd2}
theorem _root_.Go.My.Blk.back {w w' : World} {k : Nat} {t : TypeId} {cs : Array Value} (h : Blk w' k t cs) (hf : Fr No w w') (hk : k < w.heap.size) : Blk w k t cs := by
  unfold Blk at h ⊢
  rw [← hf.block k hk (fun h => h)]
  exact h
def At2Rel (R : List Rd2) (j : List UInt8) (w : World) (iv : Value) (wr : World) : Prop := ∃ k : Nat, k ≤ R.length ∧ iv = .int .i64 (k : Int) ∧ (∀ x ∈ R.take k, x.nm.data.toList ≠ j) ∧ wr = w
set_option maxRecDepth 100000 in
set_option maxHeartbeats 1000000 in
theorem refat2_any (s : ByteArray) (w : World) (h : Dk2 w0 w B p vL vR l R) (hR : R.length ≤ 1000) :
    Calls Tryz.prog 17 #[.pointer (some ⟨p, 0, none⟩), .string s] w fun e w' => ∃ z, e = .returned (.int .i64 z) ∧ AtR2 R s.data.toList z ∧ w = w' := by
  obtain ⟨A, c, rfl, h1, h2⟩ := h.rowR.form
  have c1 := h.blk.cell 1
  simp only [List.getElem?_toArray, List.getElem?_cons_zero, List.getElem?_cons_succ] at c1
  have HO := Lib.hid h.rowR.rd
  clear h h2
  go_enter Tryz.func17, Tryz.ntmps17
  go_wp2
  go_loopw [5] (fun iv wr => At2Rel R s.data.toList w iv wr) (fun iv _ => R.length - (intOf iv).toNat)
  case atStart => exact ⟨0, Nat.zero_le _, rfl, fun _ h => by simp at h, rfl⟩
  case round =>
    obtain ⟨k, hk, rfl, hno, rfl⟩ := hrel
    by_cases hlt : k < R.length
    · obtain ⟨ad, rfl, _, p0, p1, p2⟩ := rd2_at HO.out k hlt
      have HFD : Hid (R[k].nm.data.toList = s.data.toList → AtR2 R s.data.toList k) := fun e1 => at2_yes hlt hno e1
      have HNX : Hid (R[k].nm.data.toList ≠ s.data.toList → ∀ x ∈ R.take (k + 1), x.nm.data.toList ≠ s.data.toList) := fun hne x hx => by
        rw [List.take_succ_eq_append_getElem hlt] at hx
        rcases List.mem_append.1 hx with hx | hx
        · exact hno x hx
        · rw [List.mem_singleton.1 hx]
          exact hne
      have hltI : (k : Int) < (R.length : Int) := by omega
      generalize R[k] = x at *
      obtain ⟨xn, xa, xt⟩ := x
      simp only at p0 p1 p2 HFD HNX
      clear hno p1 p2
      by_cases he : xn = s
      · subst he
        have HF := Lib.hid (HFD.out rfl)
        go_wp2
        go_ret
        exact ⟨_, rfl, HF.out, rfl⟩
      · have hd : xn.data.toList ≠ s.data.toList := fun e => he (by cases xn; cases s; simp_all)
        have HN := Lib.hid (HNX.out hd)
        have hz2 : (xn.toList == s.toList) = false := by rw [ByteArray.toList_eq, ByteArray.toList_eq]; exact beq_eq_false_iff_ne.2 hd
        clear hd
        go_wp2
        go_roundw
        case rel => exact ⟨k + 1, by omega, by go_num, HN.out, rfl⟩
        case measure => simp [intOf]; omega
    · obtain rfl : k = R.length := by omega
      rw [List.take_length] at hno
      have HF : Hid (AtR2 R s.data.toList (-1)) := at2_no hno
      clear hno
      go_wp2
      go_ret
      exact ⟨_, rfl, HF.out, rfl⟩

/-- Read: what it makes of the readers -/
def readR2 (R : List Rd2) (s a : ByteArray) : List Rd2 := if readE (gOf R) R.length s.data.toList a.data.toList = 0 then R ++ [⟨s, a, 0⟩] else R
theorem readR2_gk (R : List Rd2) (s a : ByteArray) : gOf (readR2 R s a) = readG (gOf R) R.length s.data.toList a ∧ (readR2 R s a).length = readK (gOf R) R.length s.data.toList a := by
  unfold readR2 readG readK
  by_cases h : readE (gOf R) R.length s.data.toList a.data.toList = 0
  · rw [if_pos h, if_pos h, if_pos h]
    refine ⟨gOf_snoc ?_, by simp⟩
    unfold readE at h
    split at h
    · cases h
    · split at h
      · cases h
      · rename_i h2
        cases hg : gOf R s.data.toList with
        | none => rfl
        | some x => rw [hg] at h2; exact absurd rfl h2
  · rw [if_neg h, if_neg h, if_neg h]
    exact ⟨rfl, rfl⟩
def Read2 (w0 w : World) (B p : Nat) (vL : Value) (l : List Od) (R R' : List Rd2) (n : Int) (e : Ending) (w' : World) : Prop := e = .returned (.int .i64 n) ∧ ∃ vR', Dk2 w0 w' B p vL vR' l R' ∧ Fr (T2 B w) w w'
set_option maxRecDepth 100000 in
set_option maxHeartbeats 2000000 in
theorem refread2_any (s a : ByteArray) (w : World) (h : Dk2 w0 w B p vL vR l R) (hR : R.length ≤ 1000) (hs : s.size ≤ maxLen) (ha : a.size ≤ maxLen) (hB : B ≤ w.heap.size) :
    Calls Tryz.prog 8 #[.pointer (some ⟨p, 0, none⟩), .string s, .string a] w (Read2 w0 w B p vL l R (readR2 R s a) (readE (gOf R) R.length s.data.toList a.data.toList)) := by
  have HN1 := Lib.hid (fun W => refname_any s W hs)
  have HN2 := Lib.hid (fun W => refname_any a W ha)
  have HD := Lib.hid h
  have HRL := Lib.hid hR
  have HSA := Lib.hid (And.intro hs ha)
  have HBB := Lib.hid hB
  have HAT : Hid (∀ W, Fr No w W → Calls Tryz.prog 17 #[.pointer (some ⟨p, 0, none⟩), .string s] W fun e w' => ∃ z, e = .returned (.int .i64 z) ∧ AtR2 R s.data.toList z ∧ W = w') := fun W hW => refat2_any s W (h.no hW) hR
  have HX1 : Hid (∀ n : Int, n ≠ 0 → readE (gOf R) R.length s.data.toList a.data.toList = n → ∀ W, Fr No w W → Read2 w0 w B p vL l R (readR2 R s a) (readE (gOf R) R.length s.data.toList a.data.toList) (.returned (.int .i64 n)) W) := fun n hn hr W hW => by
    refine ⟨by rw [hr], vR, ?_, T2.no hW⟩
    unfold readR2
    rw [if_neg (by omega)]
    exact HD.out.no hW
  by_cases h1 : nameB s.data.toList = false
  · have HE : Hid (readE (gOf R) R.length s.data.toList a.data.toList = 1) := by show _ = _; unfold readE; rw [if_pos (.inl h1)]
    have HX := Lib.hid (HX1.out 1 (by decide) HE.out)
    rw [h1] at HN1
    clear h h1 hs
    go_enter Tryz.func8, Tryz.ntmps8
    go_wp2_with fail
    refine (HN1.out _).mono ?_
    rintro e w1 ⟨rfl, rfl⟩
    have HF := Lib.hid (Fr.refl No w)
    go_wp2
    go_ret
    exact HX.out _ HF.out
  have h1 : nameB s.data.toList = true := by simpa using h1
  rw [h1] at HN1
  by_cases h2 : nameB a.data.toList = false
  · have HE : Hid (readE (gOf R) R.length s.data.toList a.data.toList = 1) := by show _ = _; unfold readE; rw [if_pos (.inr h2)]
    have HX := Lib.hid (HX1.out 1 (by decide) HE.out)
    rw [h2] at HN2
    clear h h1 h2 hs
    go_enter Tryz.func8, Tryz.ntmps8
    go_wp2_with fail
    refine (HN1.out _).mono ?_
    rintro e w1 ⟨rfl, rfl⟩
    go_wp2_with fail
    refine (HN2.out _).mono ?_
    rintro e w2 ⟨rfl, rfl⟩
    have HF := Lib.hid (Fr.refl No w)
    go_wp2
    go_ret
    exact HX.out _ HF.out
  have h2 : nameB a.data.toList = true := by simpa using h2
  rw [h2] at HN2
  have HE0 : Hid (readE (gOf R) R.length s.data.toList a.data.toList = if (gOf R s.data.toList).isSome then 7 else if 10 ≤ R.length then 5 else 0) := by show _ = _; unfold readE; rw [if_neg (by rw [h1, h2]; simp)]
  clear h h1 h2 hs hR
  go_enter Tryz.func8, Tryz.ntmps8
  go_wp2_with fail
  refine (HN1.out _).mono ?_
  rintro e w1 ⟨rfl, rfl⟩
  go_wp2_with fail
  refine (HN2.out _).mono ?_
  rintro e w2 ⟨rfl, rfl⟩
  have HF := Lib.hid (Fr.refl No w)
  go_wp2_with fail
  refine (HAT.out _ HF.out).mono ?_
  rintro e w3 ⟨z, rfl, hz, rfl⟩
  rcases hz with ⟨hg, rfl⟩ | ⟨k, hk, rfl, -, hg, -⟩
  · by_cases h4 : 10 ≤ R.length
    · have HE : Hid (readE (gOf R) R.length s.data.toList a.data.toList = 5) := by show _ = _; rw [HE0.out, hg, if_pos h4]; rfl
      have HX := Lib.hid (HX1.out 5 (by decide) HE.out)
      obtain ⟨A, c, rfl, h5, h6⟩ := HD.out.rowR.form
      have c1 := (HD.out.no HF.out).blk.cell 1
      simp only [List.getElem?_toArray, List.getElem?_cons_zero, List.getElem?_cons_succ] at c1
      have hd : decide ((10 : Int) ≤ (R.length : Int)) = true := decide_eq_true (by omega)
      have hd2 : (R.length : Int) ≥ 10 := by omega
      clear hg h4
      go_wp2
      go_ret
      exact HX.out _ HF.out
    · have HE : Hid (readE (gOf R) R.length s.data.toList a.data.toList = 0) := by show _ = _; rw [HE0.out, hg, if_neg h4]; rfl
      have HD2 := Lib.hid (HD.out.no HF.out)
      obtain ⟨A, c, rfl, h5, h6⟩ := HD.out.rowR.form
      have c1 := HD2.out.blk.cell 1
      have z1 := HD2.out.blk.frozen 1
      simp only [List.getElem?_toArray, List.getElem?_cons_zero, List.getElem?_cons_succ] at c1
      have hd : decide ((10 : Int) ≤ (R.length : Int)) = false := decide_eq_false (by omega)
      have hd2 : ¬ (R.length : Int) ≥ 10 := by omega
      have hX : Hid (R.length + 1 ≤ maxLen ∧ (R.length + 1) * 40 ≤ 140737488355328) := by
        have := HRL.out
        refine ⟨?_, ?_⟩ <;> (try simp only [maxLen]) <;> omega
      have HG2 : Hid (readR2 R s a = R ++ [⟨s, a, 0⟩]) := by show _ = _; unfold readR2; rw [if_pos HE.out]
      rw [HE.out, HG2.out]
      have hwp := HD2.out.blk.lt
      clear hg h4
      go_wp2_with (at_builtin; refine wpList_app _ rfl (.tmp 29) (.tmp 33) 28 28 rfl elRd (HD2.out.rowR.alloc _) rfl (Src.of_new (cs := #[.string s, .string a, .int .i64 0]) (t := 58) w.heap.size (heap_alloc_new w _) Tryz.underlying28 rfl (by simp [Value.oneCell'])) rfl hX.out.1 hX.out.2 ?_; intro v7 w7 hown7 hfr7 hnew7; obtain ⟨A7, c7, rfl, _, _⟩ := hown7.form; have HO7 := Lib.hid hown7; have HF7 := Lib.hid hfr7; have HN7 := Lib.hid hnew7; have hb7 := (HD2.out.blk.alloc (.cells #[.string s, .string a, .int .i64 0] 58)).fr hfr7 (fun e => HD2.out.rowR.ne_ HD2.out.blk (by decide) e); have y7 := hb7.cell 1; have z7 := hb7.frozen 1; simp only [List.getElem?_toArray, List.getElem?_cons_zero, List.getElem?_cons_succ] at y7; clear hown7 hfr7 hnew7 hb7)
      go_ret
      have hl2 : (R ++ [(⟨s, a, 0⟩ : Rd2)]).length = R.length + 1 := by simp
      have h8 := HD2.out.newR (R' := R ++ [⟨s, a, 0⟩]) (by rw [hl2, rdsC_append, rdsC_one]; exact HO7.out) (((Fr.refl _ _).alloc _).trans HF7.out) (HN7.out.imp id fun e => ⟨_, e, by rw [World.size_alloc]; omega⟩) (Nat.le_trans HBB.out HF.out.size) (fun r hr => by
        rcases List.mem_append.1 hr with h1 | h1
        · exact HD.out.sz r h1
        · rw [List.mem_singleton] at h1
          subst h1
          exact HSA.out)
      refine ⟨by first | rfl | (rw [HE.out]; rfl), _, by first | exact h8.1 | (rw [HG2.out]; exact h8.1), h8.2⟩
  · have HE : Hid (readE (gOf R) R.length s.data.toList a.data.toList = 7) := by show _ = _; rw [HE0.out, hg]; rfl
    have HX := Lib.hid (HX1.out 7 (by decide) HE.out)
    have hd : decide (0 ≤ (k : Int)) = true := decide_eq_true (by omega)
    have hd2 : (k : Int) ≥ 0 := by omega
    clear hg
    go_wp2
    go_ret
    exact HX.out _ HF.out
end Go.Proofs.YtjbeaoabhhaiiaaGreat

namespace Go.Proofs.YtjbeaoabhhaiiaaGreat
open Go.RowKit Go.My Go.Maps
set_option linter.unusedSimpArgs false
set_option linter.unusedVariables false
attribute [local go_sem ↓] Go.wp_at_zero Go.wp_at_succ

def TyE : World → Nat → Prop := TyS fun t => t = 89
theorem RbS.ev {w w' : World} {r : Rl} {b : Bk} (h : RbS w r b) (hf : Fr (TyE w) w w') : RbS w' r b := by
  obtain ⟨cc, hcc⟩ := h.ch.blk
  obtain ⟨ch, hch⟩ := h.hd.blk
  refine h.fr hf (fun i hi ⟨t, cs, hb, ht⟩ => ?_) (fun k ⟨t, cs, hb, ht⟩ cur hc => ?_) (fun k ⟨t, cs, hb, ht⟩ cur hc => ?_)
  · have ht : t = 89 := ht
    subst ht
    rcases hi with rfl | rfl | rfl
    · exact Blk.ne_ h.blk hb (by decide) rfl
    · exact Blk.ne_ hcc hb (by decide) rfl
    · exact Blk.ne_ hch hb (by decide) rfl
  · have ht : t = 89 := ht
    subst ht
    exact Blk.ne_ hc hb (by decide) rfl
  · have ht : t = 89 := ht
    subst ht
    exact Blk.ne_ hc hb (by decide) rfl
theorem ty_ne {w : World} {k : Nat} {t : TypeId} {cs : Array Value} (h : Blk w k t cs) (ht : t ≠ 89) : ¬ TyE w k := fun ⟨t2, cs2, hb, h2⟩ => by
  have h2 : t2 = 89 := h2
  subst h2
  exact Blk.ne_ h hb ht rfl
/-- the outer loop: the first j orders are done -/
def ReO (w : World) (r : Rl) (l : List Od) (nm : List UInt8) (ov iv : Value) (wr : World) : Prop :=
  ∃ (j m : Nat) (A : Option Addr) (c : Nat), j ≤ l.length ∧ m = (evsL bk0 (l.take j) nm).length ∧ ov = .slice A m c ∧ iv = .int .i64 (j : Int) ∧ RbS wr r (foldB bk0 (l.take j)) ∧ Own wr 89 5 (.slice A m c) m (evs (evsL bk0 (l.take j) nm)) ∧ (∀ k, (Value.slice A m c).ownBlock = some k → w.heap.size ≤ k) ∧ Fr No w wr
/-- the inner loop: the first k names are looked at -/
def ReI (w w3 : World) (b : Bk) (o : Od) (nm : List UInt8) (E0 : List Ev) (ov kv : Value) (wr : World) : Prop :=
  ∃ (k m : Nat) (A : Option Addr) (c : Nat), k ≤ (touchL o).length ∧ m = (E0 ++ evT b o nm ((touchL o).take k)).length ∧ ov = .slice A m c ∧ kv = .int .i64 (k : Int) ∧ Own wr 89 5 (.slice A m c) m (evs (E0 ++ evT b o nm ((touchL o).take k))) ∧ (∀ k, (Value.slice A m c).ownBlock = some k → w.heap.size ≤ k) ∧ Fr (TyE w3) w3 wr ∧ Fr No w wr

set_option maxRecDepth 100000 in
set_option maxHeartbeats 4000000 in
theorem refevents_any (w0 w : World) (F : Nat → Prop) (A : Option Addr) (c : Nat) (l : List Od) (s : ByteArray) (hl : OdsS w0 w F A l) (hb0 : Below w0.heap.size w0 w) (hlc : l.length ≤ 1000) (hlg : ∀ o ∈ l, o.legs.length ≤ 100) (hs : s.size ≤ maxLen) :
    Calls Tryz.prog 19 #[.slice A l.length c, .string s] w (RetOwn w 89 5 none (evsL bk0 l s.data.toList).length (evs (evsL bk0 l s.data.toList))) := by
  have HL : Hid (OdsS w0 w (Lt w.heap.size) A l) := by
    obtain ⟨cells, hr, hE⟩ := hl
    exact ⟨cells, rd_lt hr (by omega), hE⟩
  have HB0 := Lib.hid hb0
  have HNEW := Lib.hid (newr_any w)
  have HLG := Lib.hid hlg
  have HS := Lib.hid hs
  have hlm : l.length ≤ 1000 := hlc
  obtain ⟨lo, hlo, hlo2⟩ : ∃ lo : List UInt8, s = ⟨lo.toArray⟩ ∧ s.data.toList = lo := ⟨s.data.toList, by simp, rfl⟩
  rw [hlo2]
  subst hlo
  clear hl hb0 hlc hlg hs hlo2
  go_enter Tryz.func19, Tryz.ntmps19
  go_wp2_with fail
  (with_reducible refine HNEW.out.mono ?_)
  rintro e w1 ⟨r, rfl, hr1, hf1, hn1⟩
  have HF1 := Lib.hid hf1
  have HN1 := Lib.hid hn1
  have HR1 := Lib.hid hr1
  clear hf1 hn1 hr1 HNEW
  go_wp2
  go_loopw [6, 7] (fun ov iv wr => ReO w r l lo ov iv wr) (fun _ iv _ => l.length - (intOf iv).toNat)
  case atStart => exact ⟨0, 0, none, 0, Nat.zero_le _, rfl, rfl, rfl, HR1.out, Own.nil _ _ _, fun k hk => by simp [Value.ownBlock] at hk, HF1.out⟩
  case round =>
    obtain ⟨j, m, A1, c1, hj, hm, rfl, rfl, hrb, hown, hnew, hfr⟩ := hrel
    by_cases hlt : j < l.length
    · have hat := HL.out.at_ j hlt
      have hev := fun nm => evs_take_next bk0 l j hlt nm
      have hfo := fold_take_next bk0 l j hlt
      have hlo100 := HLG.out _ (List.getElem_mem hlt)
      obtain ⟨o, ho⟩ : ∃ o, l[j] = o := ⟨_, rfl⟩
      rw [ho] at hat hfo hlo100
      simp only [ho] at hev
      obtain ⟨ad, v, rfl, _, hok, hg, hL, p0, p1, p2, p3, p4, p5, p6, p7, p8, p9⟩ := hat
      obtain ⟨B, dd, rfl, hd1, hd2⟩ := hL.form
      have hltI : (j : Int) < (l.length : Int) := by omega
      have HE1 : Hid (∀ nm, evsL bk0 (l.take j) nm ++ newEv (foldB bk0 (l.take j)) o nm = evsL bk0 (l.take (j + 1)) nm) := fun nm => (hev nm).symm
      have HE2 : Hid (doB (foldB bk0 (l.take j)) o = foldB bk0 (l.take (j + 1))) := hfo.symm
      have hml := evsL_len bk0 (l.take j) lo
      rw [List.length_take] at hml
      clear ho hev hfo
      generalize foldB bk0 (l.take j) = bj at *
      obtain ⟨E0, hE0⟩ : ∃ E0, E0 = evsL bk0 (l.take j) lo := ⟨_, rfl⟩
      rw [← hE0] at hown hm hml
      have HEQ := Lib.hid hE0
      have hW : ∀ W, Fr No wr W → Below w0.heap.size w0 W := fun W h => (HB0.out.trans (hfr.belowNo.mono HB0.out.size)).trans (h.belowNo.mono (by have := hfr.size; have := HB0.out.size; omega))
      have hnr : ∀ i, r.wr i → w.heap.size ≤ i := HN1.out
      have HDO : Hid (∀ W, Fr No wr W → Calls Tryz.prog 35 #[.pointer (some ⟨r.p, 0, none⟩), .agg #[.int .i64 o.cl, .int .i64 o.sq, .int .i64 o.kd, .string o.acct, .string o.peer, .int .i64 o.sum, .slice B o.legs.length dd, .int .i64 o.per, .int .i64 o.hold, .string o.note]] W fun e w' => e = .returned (.agg #[.int .i64 (doR bj o).err, .int .i64 (doR bj o).hv, .int .i64 (doR bj o).st, .int .i64 (doR bj o).num]) ∧ RbS w' r (doB bj o) ∧ Fr r.wr W w') := fun W h =>
        rdo_any (Lt w0.heap.size) r bj o (.slice B o.legs.length dd) W (hrb.no h) hok (hL.below (hW W h)) hlo100 (fun i hi => by
          have hi : i < w0.heap.size := hi
          have h1 := (hW W h).size
          have h2 := HB0.out.size
          exact ⟨by omega, fun e => by have := hnr r.c (.inr (.inl rfl)); omega⟩)
      have HTO : Hid (∀ W, Fr r.wr wr W → Calls Tryz.prog 36 #[.agg #[.int .i64 o.cl, .int .i64 o.sq, .int .i64 o.kd, .string o.acct, .string o.peer, .int .i64 o.sum, .slice B o.legs.length dd, .int .i64 o.per, .int .i64 o.hold, .string o.note]] W (RetOwn W 9 1 none (touchL o).length (ts (touchL o)))) := fun W h =>
        reftouches_any (Lt w0.heap.size) o (.slice B o.legs.length dd) W hok hg (hL.below ((hW wr (Fr.refl _ _)).trans (h.below_at (by have := hfr.size; have := HB0.out.size; omega) (fun i hi hh => by have := hnr i hh; have := HB0.out.size; omega)))) (by omega)
      have HCL : Hid (∀ W, Fr No w W → W.cell? (ad.add (j * 10)) = some (.int .i64 o.cl) ∧ W.cell? ⟨(ad.add (j * 10)).block, (ad.add (j * 10)).off + 1, none⟩ = some (.int .i64 o.sq) ∧ W.cell? ⟨(ad.add (j * 10)).block, (ad.add (j * 10)).off + 2, none⟩ = some (.int .i64 o.kd) ∧ W.cell? ⟨(ad.add (j * 10)).block, (ad.add (j * 10)).off + 3, none⟩ = some (.string o.acct) ∧ W.cell? ⟨(ad.add (j * 10)).block, (ad.add (j * 10)).off + 4, none⟩ = some (.string o.peer) ∧ W.cell? ⟨(ad.add (j * 10)).block, (ad.add (j * 10)).off + 5, none⟩ = some (.int .i64 o.sum) ∧ W.cell? ⟨(ad.add (j * 10)).block, (ad.add (j * 10)).off + 6, none⟩ = some (.slice B o.legs.length dd) ∧ W.cell? ⟨(ad.add (j * 10)).block, (ad.add (j * 10)).off + 7, none⟩ = some (.int .i64 o.per) ∧ W.cell? ⟨(ad.add (j * 10)).block, (ad.add (j * 10)).off + 8, none⟩ = some (.int .i64 o.hold) ∧ W.cell? ⟨(ad.add (j * 10)).block, (ad.add (j * 10)).off + 9, none⟩ = some (.string o.note)) := fun W hW => ⟨hW.cell_some p0 (fun h => h), hW.cell_some p1 (fun h => h), hW.cell_some p2 (fun h => h), hW.cell_some p3 (fun h => h), hW.cell_some p4 (fun h => h), hW.cell_some p5 (fun h => h), hW.cell_some p6 (fun h => h), hW.cell_some p7 (fun h => h), hW.cell_some p8 (fun h => h), hW.cell_some p9 (fun h => h)⟩
      obtain ⟨q0, q1, q2, q3, q4, q5, q6, q7, q8, q9⟩ := HCL.out wr hfr
      have HOW : Hid (∀ W, Fr r.wr wr W → Own W 89 5 (.slice A1 m c1) m (evs E0)) := fun W hW => by
        obtain ⟨cc, hcc⟩ := hrb.ch.blk
        obtain ⟨ch, hch⟩ := hrb.hd.blk
        refine hown.fr hW fun k hk hs => ?_
        rcases hs with rfl | rfl | rfl
        · exact hown.ne_ hrb.blk (by decide) hk
        · exact hown.ne_ hcc (by decide) hk
        · exact hown.ne_ hch (by decide) hk
      have HNEW := Lib.hid hnew
      have HFR := Lib.hid hfr
      have HM := Lib.hid hm
      have HNR := Lib.hid hnr
      have HIV : Hid (∀ W b, RbS W r b → Inv b.S) := fun W b h => h.inv.st.kp.inv
      obtain ⟨xe, hxe⟩ : ∃ xe, xe = (doR bj o).err := ⟨_, rfl⟩
      rw [← hxe] at HDO
      have HXE := Lib.hid hxe
      generalize (doR bj o).hv = xh at *
      generalize (doR bj o).st = xs at *
      generalize (doR bj o).num = xn at *
      obtain ⟨bk, hbk⟩ : ∃ bk, bk = doB bj o := ⟨_, rfl⟩
      rw [← hbk] at HDO HE2
      have HBK := Lib.hid hbk
      clear hrb hok hg hL hfr hW hown hnew hnr hm hxe hbk hE0 p0 p1 p2 p3 p4 p5 p6 p7 p8 p9
      go_wp2_with (first
        | (go_at_call 35; (with_reducible refine (HDO.out _ (Fr.refl _ _)).mono ?_); rintro e w4 ⟨rfl, hb4, hf4⟩; have HB4 := Lib.hid hb4; have HF4 := Lib.hid hf4; have hc4 := HCL.out _ ((HFR.out.trans' hf4 fun i hi hlt => by have := HNR.out i hi; omega).alloc (.cells #[.int .i64 xe, .int .i64 xh, .int .i64 xs, .int .i64 xn] 41)); obtain ⟨d0, d1, d2, d3, d4, d5, d6, d7, d8, d9⟩ := hc4; clear hb4 hf4)
        | (go_at_call 36; (with_reducible refine (HTO.out _ (HF4.out.alloc _)).mono ?_); rintro e w6 ⟨tv, rfl, ot, ft, nt⟩; obtain ⟨AT, cT, rfl, _, _⟩ := ot.form; have HOT := Lib.hid ot; have HF6 := Lib.hid (fr_at_none ft); clear ot ft nt))
      have HB6 : Hid (RbS w6 r bk) := Lib.hid ((HB4.out.no ((Fr.refl _ _).alloc _)).no HF6.out)
      have HFW6 : Hid (Fr No w w6) := Lib.hid (((HFR.out.trans' HF4.out fun i hi hlt => by have := HNR.out i hi; omega).alloc _).trans HF6.out)
      have HO6 : Hid (Own w6 89 5 (.slice A1 m c1) m (evs E0)) := Lib.hid (((HOW.out _ HF4.out).alloc _).fr HF6.out fun _ _ h => h)
      have HY : Hid (∀ W, Fr (TyE w6) w6 W → W.cell? ⟨w4.heap.size, 0, none⟩ = some (.int .i64 xe)) := Lib.hid (fun W hW => by
        have hb := ((Blk.new w4 41 #[.int .i64 xe, .int .i64 xh, .int .i64 xs, .int .i64 xn]).fr HF6.out (fun h => h)).fr hW (ty_ne ((Blk.new w4 41 #[.int .i64 xe, .int .i64 xh, .int .i64 xs, .int .i64 xn]).fr HF6.out (fun h => h)) (by decide))
        have h0 := hb.cell 0
        simpa using h0)
      have HT6 : Hid (∀ W, Fr (TyE w6) w6 W → Own W 9 1 (.slice AT (touchL o).length cT) (touchL o).length (ts (touchL o))) := Lib.hid (fun W hW => HOT.out.fr hW fun k hk hs => by
        obtain ⟨cur, hc⟩ := HOT.out.blk k hk
        exact ty_ne hc (by decide) hs)
      have htl : (touchL o).length ≤ 200 := Nat.le_trans (touch_length o) (by omega)
      generalize w4.heap.size = q at *
      clear HOT q0 q1 q2 q3 q4 q5 q6 q7 q8 q9 d0 d1 d2 d3 d4 d5 d6 d7 d8 d9
      have y0 := HY.out _ (Fr.refl _ _)
      by_cases hx0 : xe = 0
      · subst hx0
        have HER : Hid ((doR bj o).err = 0) := Lib.hid HXE.out.symm
        go_loopw [6, 10] (fun ov kv wr => ReI w w6 bj o lo E0 ov kv wr) (fun _ kv _ => (touchL o).length - (intOf kv).toNat)
        case atStart => exact ⟨0, m, A1, c1, Nat.zero_le _, by rw [HM.out]; simp [evT], rfl, rfl, by simpa [evT] using HO6.out, HNEW.out, Fr.refl _ _, HFW6.out⟩
        case round =>
          obtain ⟨k, m2, A2, c2, hk, hm2, rfl, rfl, ho2, hn2, hft, hfr2⟩ := hrel
          have yk := HY.out _ hft
          have HB2 := Lib.hid (HB6.out.ev hft)
          have hlen2 : m2 ≤ 1200 := by
            have h1 := evT_len bj o lo ((touchL o).take k)
            rw [List.length_take] at h1
            rw [hm2, List.length_append]
            have := HM.out
            omega
          obtain ⟨X, hX⟩ : ∃ X, X = E0 ++ evT bj o lo ((touchL o).take k) := ⟨_, rfl⟩
          have HTK := Lib.hid (HT6.out _ hft)
          have HM2 := Lib.hid hm2
          have HO2 := Lib.hid ho2
          have HN2 := Lib.hid hn2
          have HFT := Lib.hid hft
          have HFR2 := Lib.hid hfr2
          rw [← hX] at HM2 HO2
          have HXX := Lib.hid hX
          clear ho2 hn2 hft hfr2 hm2 hX y0
          by_cases hkn : k < (touchL o).length
          · have hkI : (k : Int) < ((touchL o).length : Int) := by omega
            obtain ⟨adt, hlk, rfl, _, tc⟩ := ts_at HTK.out.rd k hkn
            have HSN : Hid (E0 ++ evT bj o lo ((touchL o).take (k + 1)) = X ++ if (touchL o)[k] = lo then evAt bk o lo else []) := Lib.hid (by
              rw [List.take_succ_eq_append_getElem hlk, evT_snoc, HXX.out, List.append_assoc, HBK.out])
            have HMB : Hid ((touchL o)[k] = lo → lo ∈ touchL o) := Lib.hid (fun e => e ▸ List.getElem_mem hlk)
            generalize (touchL o)[k] = x at *
            by_cases hxl : x = lo
            · subst hxl
              obtain ⟨hev, his⟩ := evAt_touch HER.out (HMB.out rfl)
              rw [← HBK.out] at hev his
              have HGET : Hid (∀ W, RbS W r bk → Calls Tryz.prog 37 #[.pointer (some ⟨r.c, 0, none⟩), .string ⟨x.toArray⟩] W fun e w' => e = .returned (.tuple #[.agg #[.string ⟨(getV bk.S x).name.toArray⟩, .int .i64 (getV bk.S x).hv, .int .i64 (getV bk.S x).st, .int .i64 (getV bk.S x).lim], .int .i64 0]) ∧ Fr No W w') := Lib.hid (fun W hW => by
                refine (refget_any r.c bk.S ⟨x.toArray⟩ W hW.ch hW.inv.st.kp.inv).mono ?_
                rintro e w' ⟨he, hf⟩
                refine ⟨?_, hf⟩
                rw [he]
                have e1 : (⟨x.toArray⟩ : ByteArray).data.toList = x := by simp
                rw [e1, his]
                rfl)
              have HEV : Hid (evs (E0 ++ evT bj o x ((touchL o).take (k + 1))) = evs X ++ [.int .i64 o.cl, .int .i64 o.sq, .int .i64 o.kd, .int .i64 (getV bk.S x).hv, .int .i64 (getV bk.S x).st] ∧ (E0 ++ evT bj o x ((touchL o).take (k + 1))).length = m2 + 1) := Lib.hid (by
                rw [HSN.out, if_pos rfl, hev]
                refine ⟨by rw [evs_append, evs_one]; rfl, ?_⟩
                rw [List.length_append, HM2.out]
                rfl)
              clear hev his HSN
              generalize (getV bk.S x).name = an at *
              generalize (getV bk.S x).hv = ah at *
              generalize (getV bk.S x).st = ast at *
              generalize (getV bk.S x).lim = al at *
              have bc := HB2.out.blk.cell 0
              simp only [List.getElem?_toArray, List.getElem?_cons_zero] at bc
              go_upto_region 13 with (go_at_call 37; (with_reducible refine (HGET.out _ HB2.out).mono ?_); rintro e w7 ⟨rfl, hf7⟩; have HF7 := Lib.hid hf7; clear hf7)
              have hz := Blk.new w7 80 #[.string ⟨an.toArray⟩, .int .i64 ah, .int .i64 ast, .int .i64 al]
              have z1 := hz.cell 1
              have z2 := hz.cell 2
              simp only [List.getElem?_toArray, List.getElem?_cons_zero, List.getElem?_cons_succ] at z1 z2
              have HF8 : Hid (Fr No wr (w7.alloc (.cells #[.string ⟨an.toArray⟩, .int .i64 ah, .int .i64 ast, .int .i64 al] 80))) := Lib.hid (HF7.out.alloc _)
              generalize w7.alloc (.cells #[.string ⟨an.toArray⟩, .int .i64 ah, .int .i64 ast, .int .i64 al] 80) = w8 at *
              generalize w7.heap.size = q2 at *
              have HO8 : Hid (Own w8 89 5 (.slice A2 m2 c2) m2 (evs X)) := Lib.hid (HO2.out.fr HF8.out fun _ _ h => h)
              have HQT : ¬ TyE w8 q2 := ty_ne hz (by decide)
              have HFW8 : Hid (Fr No w w8) := Lib.hid (HFR2.out.trans HF8.out)
              have HX : Hid (∀ W, Fr No w W → Fr (TyE w8) w8 W → Fr No w W ∧ Fr (TyE w8) w8 W ∧ W.cell? (ad.add (j * 10)) = some (.int .i64 o.cl) ∧ W.cell? ⟨(ad.add (j * 10)).block, (ad.add (j * 10)).off + 1, none⟩ = some (.int .i64 o.sq) ∧ W.cell? ⟨(ad.add (j * 10)).block, (ad.add (j * 10)).off + 2, none⟩ = some (.int .i64 o.kd) ∧ W.cell? ⟨q2, 1, none⟩ = some (.int .i64 ah) ∧ W.cell? ⟨q2, 2, none⟩ = some (.int .i64 ast)) := Lib.hid (fun W hW hT => by
                obtain ⟨r0, r1, r2, -⟩ := HCL.out W hW
                exact ⟨hW, hT, r0, r1, r2, hT.cell_some z1 HQT, hT.cell_some z2 HQT⟩)
              have hk0 : Fr No w w8.drew := HFW8.out.drew
              have hk9 : Fr No w w8 := HFW8.out
              have hj0 : Fr (TyE w8) w8 w8.drew := (Fr.refl _ _).drew
              have hj9 : Fr (TyE w8) w8 w8 := Fr.refl _ _
              have HFA : Hid (Fr No w8 (w8.alloc (.cells #[.int .i64 o.cl, .int .i64 o.sq, .int .i64 o.kd, .int .i64 ah, .int .i64 ast] 89)).drew) := Lib.hid (((Fr.refl _ _).alloc _).drew)
              have HNX : Hid (∀ k, (Value.slice A2 m2 c2).ownBlock = some k → w.heap.size ≤ k) := HN2
              have HTX : Hid (∀ i, AtO (Value.slice A2 m2 c2).ownBlock i → TyE w8 i) := Lib.hid (fun i hi => by
                obtain ⟨cur, hc⟩ := HO8.out.blk i hi
                exact ⟨_, _, hc, rfl⟩)
              clear hz z1 z2 bc HQT
              go_region_held3 (fun W => Fr No w W ∧ Fr (TyE w8) w8 W ∧ W.cell? (ad.add (j * 10)) = some (.int .i64 o.cl) ∧ W.cell? ⟨(ad.add (j * 10)).block, (ad.add (j * 10)).off + 1, none⟩ = some (.int .i64 o.sq) ∧ W.cell? ⟨(ad.add (j * 10)).block, (ad.add (j * 10)).off + 2, none⟩ = some (.int .i64 o.kd) ∧ W.cell? ⟨q2, 1, none⟩ = some (.int .i64 ah) ∧ W.cell? ⟨q2, 2, none⟩ = some (.int .i64 ast))
                (first
                  | (with_reducible refine HX.out _ ?_ ?_; with_reducible assumption; with_reducible assumption)
                  | (with_reducible refine HX.out _ (Fr.drew (Fr.alloc ?_ _)) (Fr.drew (Fr.alloc ?_ _)); with_reducible assumption; with_reducible assumption)
                  | (with_reducible refine HX.out _ (Fr.alloc ?_ _) (Fr.alloc ?_ _); with_reducible assumption; with_reducible assumption)
                  | (refine HX.out _ ?_ ?_; assumption; assumption))
                (first
                  | (refine step_app _ rfl (.tmp 57) (.tmp 73) 47 47 rfl elE12 (HO8.out.alloc (.cells #[.int .i64 o.cl, .int .i64 o.sq, .int .i64 o.kd, .int .i64 ah, .int .i64 ast] 89)).drew rfl (Src.of_new (cs := #[.int .i64 o.cl, .int .i64 o.sq, .int .i64 o.kd, .int .i64 ah, .int .i64 ast]) (t := 89) w8.heap.size (heap_alloc_new w8 _) Tryz.underlying47 rfl (by simp [Value.oneCell'])) rfl (by simp only [maxLen]; omega) (by omega) ?_; intro v3 w3 hown3 hf3 hn3; obtain ⟨A3, c3, rfl, -, -⟩ := hown3.form; have hj3 : Fr (TyE w8) w8 w3 := (HFA.out.mono fun _ _ h => False.elim h).trans' hf3 (fun i hi hlt => HTX.out i hi); have hk3 : Fr No w w3 := (HFW8.out.trans HFA.out).trans' hf3 fun i hi hlt => by have := HNX.out i hi; omega))
              all_goals
                have HO3 := Lib.hid hown3
                have HN3 := Lib.hid hn3
                have HF3 := Lib.hid hj3
                have HF3' := Lib.hid hk3
                clear hown3 hn3 hf3 hk3 hk0 hk9 hj3 hj0 hj9
                go_wp2
                go_roundw
                case rel =>
                  refine ⟨k + 1, m2 + 1, A3, c3, hkn, HEV.out.2.symm, rfl, by first | go_num | (simp) | rfl, by rw [HEV.out.1]; exact HO3.out, fun i hi => ?_, TyS.trans (TyS.trans HFT.out (TyS.no HF8.out)) HF3.out, HF3'.out⟩
                  rcases HN3.out with e | e
                  · exact HNX.out i (e ▸ hi)
                  · rw [e] at hi; injection hi with hi; have h1 := HFW8.out.size; have h2 := HFA.out.size; omega
                case measure => simp [intOf]; omega
            · have hz : (x == lo) = false := beq_eq_false_iff_ne.2 hxl
              have hz2 : ((⟨x.toArray⟩ : ByteArray).toList == (⟨lo.toArray⟩ : ByteArray).toList) = false := by rw [ByteArray.toList_eq, ByteArray.toList_eq]; exact hz
              rw [if_neg hxl, List.append_nil] at HSN
              go_wp2
              go_roundw
              case rel => exact ⟨k + 1, m2, A2, c2, hkn, by rw [HSN.out]; exact HM2.out, rfl, by first | go_num | (simp) | rfl, by rw [HSN.out]; exact HO2.out, HN2.out, HFT.out, HFR2.out⟩
              case measure => simp [intOf]; omega
          · obtain rfl : k = (touchL o).length := by omega
            have hkI : ¬ (((touchL o).length : Nat) : Int) < ((touchL o).length : Int) := by omega
            have HFN : Hid (X = evsL bk0 (l.take (j + 1)) lo) := Lib.hid (by
              rw [HXX.out, List.take_length, evT_all HER.out, HEQ.out]
              exact HE1.out lo)
            go_wp2
            go_roundw
            case rel =>
              refine ⟨j + 1, m2, A2, c2, hlt, by rw [← HFN.out]; exact HM2.out, rfl, by first | go_num | (simp) | rfl, by rw [← HE2.out]; exact HB2.out, by rw [← HFN.out]; exact HO2.out, HN2.out, HFR2.out⟩
            case measure => simp [intOf]; omega
      · have hxI : (xe == 0) = false := by simpa using hx0
        have HNV : Hid (newEv bj o lo = []) := Lib.hid (newEv_none fun e => hx0 (HXE.out.trans e.1)).1
        go_loopw [6, 10] (fun ov kv wr => ov = .slice A1 m c1 ∧ kv = .int .i64 0 ∧ w6 = wr) (fun _ _ _ => 0)
        case atStart => exact ⟨rfl, rfl, rfl⟩
        case round =>
          obtain ⟨rfl, rfl, rfl⟩ := hrel
          have HEND : Hid (∀ iv : Value, iv = .int .i64 ((j + 1 : Nat) : Int) → ReO w r l lo (.slice A1 m c1) iv w6) := Lib.hid (fun iv hiv => by
            have h1 := HE1.out lo
            rw [HNV.out, List.append_nil, ← HEQ.out] at h1
            refine ⟨j + 1, m, A1, c1, hlt, ?_, rfl, hiv, ?_, ?_, HNEW.out, HFW6.out⟩
            · rw [← h1]; exact HM.out
            · rw [← HE2.out]; exact HB6.out
            · rw [← h1]; exact HO6.out)
          by_cases hn0 : 0 < (touchL o).length
          · have hnI : (0 : Int) < ((touchL o).length : Int) := by omega
            go_wp2
            go_roundw
            case rel => exact HEND.out _ (by simp)
            case measure => simp [intOf]; omega
          · have hnI : decide ((0 : Int) < ((touchL o).length : Int)) = false := decide_eq_false (by omega)
            have hnI2 : ¬ (0 : Int) < ((touchL o).length : Int) := by omega
            go_wp2
            go_roundw
            case rel => exact HEND.out _ (by simp)
            case measure => simp [intOf]; omega
    · obtain rfl : j = l.length := by omega
      rw [List.take_length] at hown hm
      go_wp2
      go_ret
      refine ⟨.slice A1 m c1, rfl, by rw [← hm]; exact hown, hfr.mono (fun _ _ h => False.elim h), ?_⟩
      cases hob : (Value.slice A1 m c1).ownBlock with
      | none => exact .inl rfl
      | some k => exact .inr ⟨k, rfl, hnew k hob⟩
end Go.Proofs.YtjbeaoabhhaiiaaGreat

namespace Go.Proofs.YtjbeaoabhhaiiaaGreat
open Go.RowKit Go.My Go.Maps
set_option linter.unusedSimpArgs false
set_option linter.unusedVariables false
attribute [local go_sem ↓] Go.wp_at_zero Go.wp_at_succ

variable {w0 w : World} {B p : Nat} {vL vR : Value} {l : List Od} {R : List Rd2}
/-- the events of its list -/
theorem refev_any {AL : Option Addr} {cL : Nat} (h : Dk2 w0 w B p (.slice AL l.length cL) vR l R) (hb : Below w0.heap.size w0 w) (hlc : l.length ≤ 1000) (hlg : ∀ o ∈ l, o.legs.length ≤ 100) (a : ByteArray) (ha : a.size ≤ maxLen) (W : World) (hW : Fr No w W) :
    Calls Tryz.prog 19 #[.slice AL l.length cL, .string a] W (RetOwn W 89 5 none (evsL bk0 l a.data.toList).length (evs (evsL bk0 l a.data.toList))) :=
  refevents_any w0 W _ AL cL l a (h.no hW).rowL.ods (hb.trans (hW.belowNo.mono hb.size)) hlc hlg ha

set_option maxRecDepth 100000 in
set_option maxHeartbeats 1000000 in
theorem refpoll_none (s : ByteArray) (m : Int) (w : World) (h : Dk2 w0 w B p vL vR l R) (hR : R.length ≤ 1000) (hg : gOf R s.data.toList = none) :
    Calls Tryz.prog 10 #[.pointer (some ⟨p, 0, none⟩), .string s, .int .i64 m] w fun e w' => e = .returned (.tuple #[.slice none 0 0, .int .i64 6]) ∧ w' = w := by
  have HAT := Lib.hid (refat2_any s w h hR)
  clear h hR
  go_enter Tryz.func10, Tryz.ntmps10
  go_wp2_with fail
  refine HAT.out.mono ?_
  rintro e w3 ⟨z, rfl, hz, rfl⟩
  rcases hz with ⟨-, rfl⟩ | ⟨k, hk, rfl, -, hg2, -⟩
  · go_wp2
    go_ret2
    exact ⟨rfl, rfl⟩
  · rw [hg] at hg2; cases hg2

set_option maxRecDepth 100000 in
set_option maxHeartbeats 1000000 in
theorem refpoll_some (s : ByteArray) (m : Int) (w : World) (h : Dk2 w0 w B p vL vR l R) (hb : Below w0.heap.size w0 w) (hR : R.length ≤ 1000) (hlc : l.length ≤ 1000) (hlg : ∀ o ∈ l, o.legs.length ≤ 100) (hm : In64 m) {a : ByteArray} {t : Nat} (hg : gOf R s.data.toList = some (a, t)) (ht : t ≤ (evsL bk0 l a.data.toList).length) :
    Calls Tryz.prog 10 #[.pointer (some ⟨p, 0, none⟩), .string s, .int .i64 m] w fun e w' => ∃ (A : Option Addr) (c : Nat), e = .returned (.tuple #[.slice A (((evsL bk0 l a.data.toList).drop t).take m.toNat).length c, .int .i64 0]) ∧ Rd w' (fun k => w.heap.size ≤ k) 5 A (((evsL bk0 l a.data.toList).drop t).take m.toNat).length (evs (((evsL bk0 l a.data.toList).drop t).take m.toNat)) ∧ Fr No w w' := by
  have HAT := Lib.hid (refat2_any s w h hR)
  obtain ⟨AL, cL, rfl, -, -⟩ := h.rowL.form
  obtain ⟨AR, cR, rfl, -, -⟩ := h.rowR.form
  have c0 := h.blk.cell 0
  have c1 := h.blk.cell 1
  simp only [List.getElem?_toArray, List.getElem?_cons_zero, List.getElem?_cons_succ] at c0 c1
  have hll := evsL_len bk0 l a.data.toList
  have HRD := Lib.hid h.rowR.rd
  have HSZ := Lib.hid h.sz
  have HEV := Lib.hid (fun a ha W hW => refev_any h hb hlc hlg a ha W hW)
  generalize hE : evsL bk0 l a.data.toList = E at *
  generalize hM : E.drop t = M
  generalize hT : M.take m.toNat = T
  clear h hb hlg
  go_enter Tryz.func10, Tryz.ntmps10
  go_wp2_with fail
  refine HAT.out.mono ?_
  rintro e w3 ⟨z, rfl, hz, rfl⟩
  rcases hz with ⟨hg2, -⟩ | ⟨k, hk, rfl, -, hg2, -⟩
  · rw [hg] at hg2; cases hg2
  rw [hg] at hg2
  injection hg2 with hg2
  obtain ⟨e1, e2⟩ := Prod.mk.inj hg2
  obtain ⟨ad, rfl, _, p0, p1, p2⟩ := rd2_at HRD.out k hk
  rw [← e1] at p1
  rw [← e2] at p2
  have HEV2 : Hid (∀ W, Fr No w W → Calls Tryz.prog 19 #[.slice AL l.length cL, .string a] W (RetOwn W 89 5 none E.length (evs E))) := Lib.hid (fun W hW => by
    have h1 := HEV.out a (by rw [e1]; exact (HSZ.out _ (List.getElem_mem hk)).2) W hW
    rw [hE] at h1
    exact h1)
  have HX : Hid (∀ W, Fr No w W → Fr No w W ∧ W.cell? ⟨p, 0, none⟩ = some (.slice AL l.length cL) ∧ W.cell? ⟨p, 1, none⟩ = some (.slice (some ad) R.length cR) ∧ W.cell? ⟨(ad.add (k * 3)).block, (ad.add (k * 3)).off + 1, none⟩ = some (.string a) ∧ W.cell? ⟨(ad.add (k * 3)).block, (ad.add (k * 3)).off + 2, none⟩ = some (.int .i64 (t : Int))) := Lib.hid (fun W hW => ⟨hW, hW.cell_some c0 (fun h => h), hW.cell_some c1 (fun h => h), hW.cell_some p1 (fun h => h), hW.cell_some p2 (fun h => h)⟩)
  have hkI : (k : Int) < (R.length : Int) := by omega
  have hk0 : ¬ (k : Int) < 0 := by omega
  have g0 : Fr No w w.drew := (Fr.refl _ _).drew
  clear e1 e2 hg2 hg p0 hE HEV HRD
  go_upto_region 4 with (fail)
  go_region_held3 (fun W => Fr No w W ∧ W.cell? ⟨p, 0, none⟩ = some (.slice AL l.length cL) ∧ W.cell? ⟨p, 1, none⟩ = some (.slice (some ad) R.length cR) ∧ W.cell? ⟨(ad.add (k * 3)).block, (ad.add (k * 3)).off + 1, none⟩ = some (.string a) ∧ W.cell? ⟨(ad.add (k * 3)).block, (ad.add (k * 3)).off + 2, none⟩ = some (.int .i64 (t : Int)))
    (exact HX.out _ (by first | assumption | exact (Fr.refl _ _).drew))
    (first
    | (go_at_call 19; (with_reducible refine (HEV2.out _ g0).mono ?_); rintro e u1 ⟨v, rfl, o1, f1, n1⟩; obtain ⟨AE, cE, rfl, hcE, hmE⟩ := o1.form; have g1 := Fr.trans g0 (fr_at_none f1)))
  all_goals
    have HG1 := Lib.hid g1
    have hcut := ((o1.rd.more (G := fun k => w.heap.size ≤ k) (fun k hk => newer_none n1 k hk)).cut (k := t) (cap := cE) ht hcE)
    rw [evs_drop] at hcut
    rw [hM] at hcut
    have hMl : M.length ≤ 1000 := by rw [← hM, List.length_drop]; omega
    have e1 : E.length - t = M.length := by rw [← hM, List.length_drop]
    rw [e1] at hcut ⊢
    generalize (if cE = t then AE else Option.map (fun x => x.add (t * 5)) AE) = A2 at *
    have hc3 : M.length ≤ cE - t := by rw [← hM, List.length_drop]; omega
    have hc4 : cE - t ≤ maxLen := by omega
    generalize cE - t = c2 at *
    have hTl : T.length ≤ M.length := by rw [← hT, List.length_take]; omega
    have hTT : M.take T.length = T := by rw [← hT, List.length_take, List.take_eq_take_iff]; simp
    have hcut2 := hcut.take (k := T.length) hTl
    rw [evs_take, hTT] at hcut2
    have HCUT := Lib.hid hcut2
    have hTm : (min (max m 0) (M.length : Int)).toNat = T.length := by
      rw [← hT, List.length_take]
      omega
    have hc5 : c2 ≤ 9223372036854775807 := by unfold maxLen at hc4; omega
    unfold In64 at hm
    have HTM := Lib.hid hTm
    clear hcut hcut2 e1 hc4 hTT hT hM hTm o1 f1 n1 g1 g0 hcE hmE
    go_wp2
    rw [HTM.out]
    go_ret2
    exact ⟨A2, c2, rfl, HCUT.out, HG1.out⟩

set_option maxRecDepth 100000 in
set_option maxHeartbeats 1000000 in
theorem refmove_none (s : ByteArray) (n : Int) (back : Bool) (w : World) (h : Dk2 w0 w B p vL vR l R) (hR : R.length ≤ 1000) (hg : gOf R s.data.toList = none) :
    Calls Tryz.prog 14 #[.pointer (some ⟨p, 0, none⟩), .string s, .int .i64 n, .bool back] w fun e w' => e = .returned (.int .i64 6) ∧ w' = w := by
  have HAT := Lib.hid (refat2_any s w h hR)
  clear h hR
  go_enter Tryz.func14, Tryz.ntmps14
  go_wp2_with fail
  refine HAT.out.mono ?_
  rintro e w3 ⟨z, rfl, hz, rfl⟩
  rcases hz with ⟨-, rfl⟩ | ⟨k, hk, rfl, -, hg2, -⟩
  · go_wp2
    go_ret
    exact ⟨rfl, rfl⟩
  · rw [hg] at hg2; cases hg2
theorem addr0 (g k : Nat) : (⟨g, 0, none⟩ : Addr).add k = ⟨g, k, none⟩ := by
  unfold Addr.add
  split
  · rename_i h; have h : k = 0 := by simpa using h
    subst h; rfl
  · simp
def mostR (E : Nat) (t : Nat) (back : Bool) : Nat := if back then t else E - t
def toR (t : Nat) (n : Int) (back : Bool) : Nat := if back then t - n.toNat else t + n.toNat
/-- what a move makes -/
def Move2 (w0 w : World) (B p : Nat) (vL vR : Value) (l : List Od) (R : List Rd2) (s : List UInt8) (a : ByteArray) (t' : Nat) (x : Int) (e : Ending) (w' : World) : Prop :=
  e = .returned (.int .i64 x) ∧ ∃ R', Dk2 w0 w' B p vL vR l R' ∧ gOf R' = tookG (gOf R) s a t' x ∧ R'.length = R.length ∧ Fr (T2 B w) w w'
set_option maxRecDepth 100000 in
set_option maxHeartbeats 2000000 in
theorem refmove_some (s : ByteArray) (n : Int) (back : Bool) (w : World) (h : Dk2 w0 w B p vL vR l R) (hb : Below w0.heap.size w0 w) (hR : R.length ≤ 1000) (hlc : l.length ≤ 1000) (hlg : ∀ o ∈ l, o.legs.length ≤ 100) (hn : In64 n) {a : ByteArray} {t : Nat} (hg : gOf R s.data.toList = some (a, t)) (ht : t ≤ (evsL bk0 l a.data.toList).length) :
    Calls Tryz.prog 14 #[.pointer (some ⟨p, 0, none⟩), .string s, .int .i64 n, .bool back] w (Move2 w0 w B p vL vR l R s.data.toList a (toR t n back) (moveE n (mostR (evsL bk0 l a.data.toList).length t back))) := by
  have HAT := Lib.hid (refat2_any s w h hR)
  have HD := Lib.hid h
  obtain ⟨AL, cL, rfl, -, -⟩ := h.rowL.form
  obtain ⟨AR, cR, hvR, -, -⟩ := h.rowR.form
  have c0 := h.blk.cell 0
  have c1 := h.blk.cell 1
  simp only [List.getElem?_toArray, List.getElem?_cons_zero, List.getElem?_cons_succ] at c0 c1
  have hll := evsL_len bk0 l a.data.toList
  have HRD : Hid (Rd w (fun k => vR.ownBlock = some k) 3 AR R.length (rdsC R)) := Lib.hid (by have h1 := h.rowR; rw [hvR] at h1 ⊢; exact h1.rd)
  have HSZ := Lib.hid h.sz
  have HEV := Lib.hid (fun a ha W hW => refev_any h hb hlc hlg a ha W hW)
  have HG0 : Hid (0 < R.length → ∃ g, AR = some ⟨g, 0, none⟩) := Lib.hid (fun h0 => by
    rcases h.rowR.2 with ⟨_, e⟩ | ⟨g, cap, cur, hv, _⟩
    · omega
    · rw [hvR] at hv; injection hv with e; exact ⟨g, e⟩)
  generalize hE : evsL bk0 l a.data.toList = E at *
  clear h hb hlg
  rw [hvR] at c1
  go_enter Tryz.func14, Tryz.ntmps14
  go_wp2_with fail
  refine HAT.out.mono ?_
  rintro e w3 ⟨z, rfl, hz, rfl⟩
  rcases hz with ⟨hg2, -⟩ | ⟨k, hk, rfl, hnm, hg2, hfst⟩
  · rw [hg] at hg2; cases hg2
  have hg3 := hg2
  rw [hg] at hg2
  injection hg2 with hg2
  obtain ⟨e1, e2⟩ := Prod.mk.inj hg2
  obtain ⟨g, hAR⟩ := HG0.out (by omega)
  obtain ⟨ad, hAR2, _, p0, p1, p2⟩ := rd2_at HRD.out k hk
  have hadE : ad = ⟨g, 0, none⟩ := by rw [hAR] at hAR2; injection hAR2 with e; exact e.symm
  have HADE := Lib.hid hadE
  rw [← e1] at p1
  rw [← e2] at p2
  rw [hAR2] at c1
  have HEV2 : Hid (∀ W, Fr No w W → Calls Tryz.prog 19 #[.slice AL l.length cL, .string a] W (RetOwn W 89 5 none E.length (evs E))) := Lib.hid (fun W hW => by
    have h1 := HEV.out a (by rw [e1]; exact (HSZ.out _ (List.getElem_mem hk)).2) W hW
    rw [hE] at h1
    exact h1)
  have HX : Hid (∀ W, Fr No w W → Fr No w W ∧ W.cell? ⟨p, 0, none⟩ = some (.slice AL l.length cL) ∧ W.cell? ⟨p, 1, none⟩ = some (.slice (some ad) R.length cR) ∧ W.cell? ⟨(ad.add (k * 3)).block, (ad.add (k * 3)).off + 1, none⟩ = some (.string a) ∧ W.cell? ⟨(ad.add (k * 3)).block, (ad.add (k * 3)).off + 2, none⟩ = some (.int .i64 (t : Int))) := Lib.hid (fun W hW => ⟨hW, hW.cell_some c0 (fun h => h), hW.cell_some c1 (fun h => h), hW.cell_some p1 (fun h => h), hW.cell_some p2 (fun h => h)⟩)
  have HBAD : Hid (∀ W x, x = 13 → x = moveE n (mostR E.length t back) → Fr No w W → Move2 w0 w B p (.slice AL l.length cL) vR l R s.data.toList a (toR t n back) (moveE n (mostR E.length t back)) (.returned (.int .i64 x)) W) := Lib.hid (fun W x hx hm hW => by
    rw [← hm]
    refine ⟨rfl, R, HD.out.no hW, ?_, rfl, T2.no hW⟩
    unfold tookG
    rw [if_neg (by omega)])
  have HOK : Hid (∀ W (t' : Nat), toR t n back = t' → 0 = moveE n (mostR E.length t back) → Fr No w W → W.frozen? ⟨(ad.add (k * 3)).block, (ad.add (k * 3)).off + 2, none⟩ = false ∧ Move2 w0 w B p (.slice AL l.length cL) vR l R s.data.toList a (toR t n back) (moveE n (mostR E.length t back)) (.returned (.int .i64 0)) (W.setCell ⟨(ad.add (k * 3)).block, (ad.add (k * 3)).off + 2, none⟩ (.int .i64 (t' : Int)))) := Lib.hid (fun W t' ht' hm hW => by
    have hDW := HD.out.no hW
    have eA : (⟨(ad.add (k * 3)).block, (ad.add (k * 3)).off + 2, none⟩ : Addr) = ⟨g, k * 3 + 2, none⟩ := by rw [HADE.out, addr0]
    rw [eA]
    obtain ⟨m1, m2, m3⟩ := hDW.moved (g := g) (n := R.length) (c := cR) (by rw [hvR, hAR]) hk t'
    refine ⟨m3, ?_⟩
    rw [← hm]
    refine ⟨rfl, _, m1, ?_, List.length_set, T2.trans (T2.no hW) m2⟩
    rw [gOf_set hk hnm hfst]
    unfold tookG
    rw [if_pos rfl, ht', e1])
  have hkI : (k : Int) < (R.length : Int) := by omega
  have hk0 : ¬ (k : Int) < 0 := by omega
  have g0 : Fr No w w.drew := (Fr.refl _ _).drew
  clear e1 e2 hg2 hg3 hg p0 hE HEV HRD hAR hAR2 hvR hadE hnm hfst
  go_upto_region 4 with (fail)
  go_region_held3 (fun W => Fr No w W ∧ W.cell? ⟨p, 0, none⟩ = some (.slice AL l.length cL) ∧ W.cell? ⟨p, 1, none⟩ = some (.slice (some ad) R.length cR) ∧ W.cell? ⟨(ad.add (k * 3)).block, (ad.add (k * 3)).off + 1, none⟩ = some (.string a) ∧ W.cell? ⟨(ad.add (k * 3)).block, (ad.add (k * 3)).off + 2, none⟩ = some (.int .i64 (t : Int)))
    (exact HX.out _ (by first | assumption | exact (Fr.refl _ _).drew))
    (first
    | (go_at_call 19; (with_reducible refine (HEV2.out _ g0).mono ?_); rintro e u1 ⟨v, rfl, o1, f1, n1⟩; obtain ⟨AE, cE, rfl, hcE, hmE⟩ := o1.form; have g1 := Fr.trans g0 (fr_at_none f1)))
  all_goals
    have HG1 := Lib.hid g1
    obtain ⟨y0, y1, y2, y3, y4⟩ := HX.out _ g1
    generalize E.length = N at *
    have hN : N ≤ 1000 := by omega
    clear g0 g1 f1 n1 o1 hcE hmE c0 c1 p1 p2 y0
    unfold In64 at hn
    by_cases h0 : n < 0
    · have hd0 : decide (n < 0) = true := decide_eq_true h0
      have HM : Hid (moveE n (mostR N t back) = 13) := Lib.hid (by unfold moveE; rw [if_pos (.inl h0)])
      go_wp2
      go_ret
      exact HBAD.out _ 13 rfl HM.out.symm HG1.out
    · obtain ⟨q, rfl⟩ : ∃ q : Nat, n = (q : Int) := ⟨n.toNat, by omega⟩
      have hd0 : decide ((q : Int) < 0) = false := decide_eq_false h0
      have hq0 : ¬ (q : Int) < 0 := h0
      clear h0
      cases back with
      | false =>
        by_cases h1 : N - t < q
        · have hd1 : decide ((q : Int) > (N : Int) - (t : Int)) = true := decide_eq_true (by omega)
          have hd2 : (q : Int) > (N : Int) - (t : Int) := by omega
          have HM : Hid (moveE (q : Int) (mostR N t false) = 13) := Lib.hid (by unfold moveE mostR; rw [if_pos (.inr (by simp; omega))])
          clear h1
          go_wp2
          go_ret
          exact HBAD.out _ 13 rfl HM.out.symm HG1.out
        · have hd1 : decide ((q : Int) > (N : Int) - (t : Int)) = false := decide_eq_false (by omega)
          have hd2 : ¬ (q : Int) > (N : Int) - (t : Int) := by omega
          have hq9 : q ≤ 1000 := by omega
          have HM : Hid (moveE (q : Int) (mostR N t false) = 0) := Lib.hid (by unfold moveE mostR; rw [if_neg (by simp; omega)])
          obtain ⟨z1, z2⟩ := HOK.out _ (t + q) (by unfold toR; simp) HM.out.symm HG1.out
          have HZ2 := Lib.hid z2
          clear h1 z2
          go_wp2
          go_ret
          have h9 := HZ2.out
          first
            | exact h9
            | (rw [show ((t + q : Nat) : Int) = (t : Int) + (q : Int) from by omega] at h9; exact h9)
      | true =>
        by_cases h1 : t < q
        · have hd1 : decide ((q : Int) > (t : Int)) = true := decide_eq_true (by omega)
          have hd2 : (q : Int) > (t : Int) := by omega
          have HM : Hid (moveE (q : Int) (mostR N t true) = 13) := Lib.hid (by unfold moveE mostR; rw [if_pos (.inr (by simp; omega))])
          clear h1
          go_wp2
          go_ret
          exact HBAD.out _ 13 rfl HM.out.symm HG1.out
        · have hd1 : decide ((q : Int) > (t : Int)) = false := decide_eq_false (by omega)
          have hd2 : ¬ (q : Int) > (t : Int) := by omega
          have hq9 : q ≤ 1000 := by omega
          have HM : Hid (moveE (q : Int) (mostR N t true) = 0) := Lib.hid (by unfold moveE mostR; rw [if_neg (by simp; omega)])
          obtain ⟨z1, z2⟩ := HOK.out _ (t - q) (by unfold toR; simp) HM.out.symm HG1.out
          have HZ2 := Lib.hid z2
          have hsum : (t : Int) + -(q : Int) = ((t - q : Nat) : Int) := by omega
          clear h1 z2
          go_wp2
          go_ret
          exact HZ2.out
end Go.Proofs.YtjbeaoabhhaiiaaGreat

namespace Go.Proofs.YtjbeaoabhhaiiaaGreat
open Go.RowKit Go.My Go.Maps
set_option linter.unusedSimpArgs false
set_option linter.unusedVariables false
attribute [local go_sem ↓] Go.wp_at_zero Go.wp_at_succ

/-- the program's desk d has done lp and has the readers gp; the document's at p has l and R; both were made since w -/
structure Md (w : World) (d : Dp) (p n : Nat) (f : List UInt8 → Option Value) (vL vR : Value) (l : List Od) (R : List Rd2) (lp : List Od) (kp : Nat) (gp : List UInt8 → Option Rdr) (u : World) : Prop where
  dk : DkS u d f (12 * lp.length) (foldB bk0 lp) (evsL bk0 lp) kp gp
  d2 : Dk2 w u w.heap.size p vL vR l R
  fr : Fr No w u
  new : ∀ i, d.all f i → w.heap.size ≤ i
  ll : l.length ≤ n
  rl : R.length ≤ n
  lg : ∀ o ∈ l, o.legs.length ≤ 8
/-- both have done the same -/
def Pn (w : World) (d : Dp) (p n : Nat) (u : World) : Prop := ∃ f vL vR l R, Md w d p n f vL vR l R l R.length (gOf R) u
/-- a step in memory -/
def Bq (q : Nat) (cs : Array Value) (u : World) : Prop := Blk u q 37 cs
section
variable {w u u' : World} {d : Dp} {p n q : Nat} {cs : Array Value} {f : List UInt8 → Option Value} {vL vR : Value} {l lp : List Od} {R : List Rd2} {kp : Nat} {gp : List UInt8 → Option Rdr}
theorem Md.no (h : Md w d p n f vL vR l R lp kp gp u) (hf : Fr No u u') : Md w d p n f vL vR l R lp kp gp u' :=
  ⟨h.dk.no hf, h.d2.no hf, h.fr.trans hf, h.new, h.ll, h.rl, h.lg⟩
theorem Md.more (h : Md w d p n f vL vR l R lp kp gp u) {m : Nat} (hm : n ≤ m) : Md w d p m f vL vR l R lp kp gp u :=
  ⟨h.dk, h.d2, h.fr, h.new, Nat.le_trans h.ll hm, Nat.le_trans h.rl hm, h.lg⟩
theorem Pn.no (h : Pn w d p n u) (hf : Fr No u u') : Pn w d p n u' := by
  obtain ⟨f, vL, vR, l, R, hm⟩ := h
  exact ⟨f, vL, vR, l, R, hm.no hf⟩
theorem Pn.more (h : Pn w d p n u) {m : Nat} (hm : n ≤ m) : Pn w d p m u := by
  obtain ⟨f, vL, vR, l, R, h⟩ := h
  exact ⟨f, vL, vR, l, R, h.more hm⟩
/-- the step lies apart from both -/
theorem DkS.op {b : Bk} {E : List UInt8 → List Ev} {N : Nat} (h : DkS u d f N b E kp gp) (hq : Bq q cs u) : ¬ d.all f q := by
  obtain ⟨c, hc, hv⟩ := h.ev
  unfold Bq at hq
  rintro (e | e | e | e)
  · exact Blk.ne_ hq h.blk (by decide) e
  · rcases e with e | e | e | e | e
    · exact Blk.ne_ hq h.bk.blk (by decide) e
    · exact Blk.ne_ hq h.bk.ch.1 (by decide) e
    · exact h.bk.ch.2.ne_ hq e.symm
    · exact Blk.ne_ hq h.bk.hd.1 (by decide) e
    · exact h.bk.hd.2.ne_ hq e.symm
  · exact hv.far hq (by decide) e
  · exact h.rd.ne_ hq e.symm
theorem Bq.ty (hq : Bq q cs u) : ¬ Ty2 u q := fun ⟨t, cs2, hb, ht⟩ => by
  rcases ht with rfl | rfl | rfl <;> exact Blk.ne_ hq hb (by decide) rfl
theorem Bq.no (hq : Bq q cs u) (hf : Fr No u u') : Bq q cs u' := Blk.fr hq hf (fun h => h)
/-- the program has written its own -/
theorem Md.prog (h : Md w d p n f vL vR l R lp kp gp u) {S : Nat → Prop} (hf : Fr S u u') (hS : ∀ i, S i → d.all f i) {f' : List UInt8 → Option Value} {lp' : List Od} {kp' : Nat} {gp' : List UInt8 → Option Rdr} (hd : DkS u' d f' (12 * lp'.length) (foldB bk0 lp') (evsL bk0 lp') kp' gp') (hn : ∀ i, d.all f' i → w.heap.size ≤ i) : Md w d p n f' vL vR l R lp' kp' gp' u' :=
  ⟨hd, h.d2.prog h.dk hf hS, h.fr.trans' hf fun i hi hlt => by have := h.new i (hS i hi); omega, hn, h.ll, h.rl, h.lg⟩
theorem Bq.prog (hq : Bq q cs u) (h : Md w d p n f vL vR l R lp kp gp u) {S : Nat → Prop} (hf : Fr S u u') (hS : ∀ i, S i → d.all f i) : Bq q cs u' := Blk.fr hq hf fun e => h.dk.op hq (hS q e)
/-- the document has written its own -/
theorem Md.ref (h : Md w d p n f vL vR l R lp kp gp u) (hf : Fr (T2 w.heap.size u) u u') {m : Nat} {vL' vR' : Value} {l' : List Od} {R' : List Rd2} (hd : Dk2 w u' w.heap.size p vL' vR' l' R') (h1 : l'.length ≤ m) (h2 : R'.length ≤ m) (h3 : ∀ o ∈ l', o.legs.length ≤ 8) : Md w d p m f vL' vR' l' R' lp kp gp u' :=
  ⟨h.dk.ref2 hf, hd, h.fr.trans' hf fun i hi hlt => by have := hi.2; omega, h.new, h1, h2, h3⟩
theorem Bq.ref (hq : Bq q cs u) {B : Nat} (hf : Fr (T2 B u) u u') : Bq q cs u' := Blk.fr hq hf fun e => hq.ty e.1
theorem Md.below (h : Md w d p n f vL vR l R lp kp gp u) : Below w.heap.size w u := h.fr.belowNo
end

section
variable {w u : World} {d : Dp} {p n q : Nat} {cs : Array Value} {f : List UInt8 → Option Value} {vL vR : Value} {l lp : List Od} {R : List Rd2} {kp : Nat} {gp : List UInt8 → Option Rdr}
theorem Md.lp50 (h : Md w d p n f vL vR l R lp kp gp u) (nm : List UInt8) : (evsL bk0 lp nm).length ≤ lp.length := evsL_len bk0 lp nm
/-- the program does an order -/
theorem st_do (h : Md w d p n f vL vR l R l R.length (gOf R) u) (hn : n ≤ 1000) (hq : Bq q cs u) (o : Od) (v : Value) (ho : o.ok) (hL : LgS w (Lt w.heap.size) v o.legs) (h8 : o.legs.length ≤ 8) :
    Calls Tryz.prog 6 #[.pointer (some ⟨d.p, 0, none⟩), o.val v] u fun e u' => (∃ x, e = .returned x) ∧ ∃ f', Md w d p n f' vL vR l R (l ++ [o]) R.length (gOf R) u' ∧ Bq q cs u' := by
  refine (ddo_any (Lt w.heap.size) o v u h.dk ho (hL.below h.below) (fun i hi => ?_) (by omega) (by have := h.ll; omega) (fun nm => by have := h.lp50 nm; have := h.ll; omega)).mono ?_
  · have hi : i < w.heap.size := hi
    exact ⟨Nat.lt_of_lt_of_le hi h.fr.size, fun e => by have := h.new i (.inr (.inl e)); omega⟩
  · rintro e u' ⟨f', rfl, hd, hf, hs⟩
    refine ⟨⟨_, rfl⟩, f', h.prog hf (fun i hi => Dp.wr_all hi) ?_ (fun i hi => ?_), hq.prog h hf fun i hi => Dp.wr_all hi⟩
    · rw [foldB_append]
      exact hd.same (by rw [List.length_append]; simp; omega) fun nm => (evsL_snoc bk0 l o nm).symm
    · have := h.fr.size
      rcases hi with e | e | e | e
      · exact h.new i (.inl e)
      · exact h.new i (.inr (.inl e))
      · rcases hs i e with h3 | h3
        · exact h.new i (.inr (.inr (.inl h3)))
        · omega
      · exact h.new i (.inr (.inr (.inr e)))
/-- the document keeps it -/
theorem rf_do {o : Od} {v : Value} {u7 : World} {v7 : Value} {cells : List Value} (h : Md w d p n f vL vR l R (l ++ [o]) R.length (gOf R) u) (hq : Bq q cs u) (ho : OdI w o v) (h8 : o.legs.length ≤ 8) (hE : Each (OdR w) 10 cells l) (hown : Own u7 35 10 v7 (l.length + 1) (cells ++ o.cs v)) (hf : Fr (AtO vL.ownBlock) u u7) (hn : v7.ownBlock = vL.ownBlock ∨ ∃ k, v7.ownBlock = some k ∧ u.heap.size ≤ k) :
    Pn w d p (n + 1) (u7.setCell ⟨p, 0, none⟩ v7) ∧ Bq q cs (u7.setCell ⟨p, 0, none⟩ v7) := by
  have hl : (l ++ [o]).length = l.length + 1 := by simp
  obtain ⟨h1, h2⟩ := h.d2.newL (l' := l ++ [o]) ⟨cells ++ o.cs v, by rw [hl]; exact hown, Each.snocO hE rfl ⟨v, rfl, ho⟩⟩ hf hn h.fr.size
  have hll := h.ll
  exact ⟨⟨f, v7, vR, l ++ [o], R, h.ref h2 h1 (by rw [hl]; omega) (Nat.le_succ_of_le h.rl) fun x hx => by
    rcases List.mem_append.1 hx with h3 | h3
    · exact h.lg x h3
    · rw [List.mem_singleton] at h3; subst h3; exact h8⟩, hq.ref h2⟩
/-- the program gets a reader -/
theorem st_read (h : Md w d p n f vL vR l R l R.length (gOf R) u) (hn : n ≤ 1000) (hq : Bq q cs u) (s a : ByteArray) (hs : s.size ≤ maxLen) (ha : a.size ≤ maxLen) :
    Calls Tryz.prog 7 #[.pointer (some ⟨d.p, 0, none⟩), .string s, .string a] u fun e u' => e = .returned (.int .i64 (readE (gOf R) R.length s.data.toList a.data.toList)) ∧ Md w d p n f vL vR l R l (readK (gOf R) R.length s.data.toList a) (readG (gOf R) R.length s.data.toList a) u' ∧ Bq q cs u' := by
  refine (dread_any s a u h.dk hs ha (by have := h.rl; omega)).mono ?_
  rintro e u' ⟨rfl, hd, hf⟩
  exact ⟨rfl, h.prog hf (fun i hi => .inr (.inr (.inr hi))) hd h.new, hq.prog h hf fun i hi => .inr (.inr (.inr hi))⟩
/-- .. and the document -/
theorem rf_read {s a : ByteArray} (h : Md w d p n f vL vR l R l (readK (gOf R) R.length s.data.toList a) (readG (gOf R) R.length s.data.toList a) u) (hn : n ≤ 900) (hq : Bq q cs u) (hs : s.size ≤ maxLen) (ha : a.size ≤ maxLen) :
    Calls Tryz.prog 8 #[.pointer (some ⟨p, 0, none⟩), .string s, .string a] u fun e u' => e = .returned (.int .i64 (readE (gOf R) R.length s.data.toList a.data.toList)) ∧ Pn w d p (n + 1) u' ∧ Bq q cs u' := by
  refine (refread2_any s a u h.d2 (by have := h.rl; omega) hs ha h.fr.size).mono ?_
  rintro e u' ⟨rfl, vR', hd, hf⟩
  obtain ⟨g1, g2⟩ := readR2_gk R s a
  refine ⟨rfl, ⟨f, vL, vR', l, readR2 R s a, ?_⟩, hq.ref hf⟩
  rw [g1, g2]
  refine h.ref hf hd (Nat.le_succ_of_le h.ll) ?_ h.lg
  rw [g2]
  unfold readK
  have := h.rl
  split <;> omega
/-- what a poll tells -/
def pollX (E : List UInt8 → List Ev) (g : List UInt8 → Option Rdr) (s : List UInt8) (m : Int) : List Ev × Int := match g s with | none => ([], 6) | some (a, t) => (((E a.data.toList).drop t).take m.toNat, 0)
theorem pollX_len (l : List Od) (g : List UInt8 → Option Rdr) (s : List UInt8) (m : Int) : (pollX (evsL bk0 l) g s m).1.length ≤ l.length := by
  unfold pollX
  split
  · exact Nat.zero_le _
  · rename_i a t _
    simp only [List.length_take, List.length_drop]
    have := evsL_len bk0 l a.data.toList
    omega
theorem st_poll (h : Md w d p n f vL vR l R l R.length (gOf R) u) (hn : n ≤ 1000) (s : ByteArray) (m : Int) (hs : s.size ≤ maxLen) (hm : In64 m) :
    Calls Tryz.prog 9 #[.pointer (some ⟨d.p, 0, none⟩), .string s, .int .i64 m] u fun e u' => ∃ A c, e = .returned (.tuple #[.slice A (pollX (evsL bk0 l) (gOf R) s.data.toList m).1.length c, .int .i64 (pollX (evsL bk0 l) (gOf R) s.data.toList m).2]) ∧ Rd u' (fun k => u.heap.size ≤ k) 5 A (pollX (evsL bk0 l) (gOf R) s.data.toList m).1.length (evs (pollX (evsL bk0 l) (gOf R) s.data.toList m).1) ∧ Fr No u u' := by
  unfold pollX
  cases hg : gOf R s.data.toList with
  | none =>
    refine (poll_none s m u h.dk hs hg).mono ?_
    rintro e u' ⟨rfl, hf⟩
    exact ⟨none, 0, rfl, (Own.nil u' 71 5).rd.more fun k hk => by simp [Value.ownBlock] at hk, hf⟩
  | some at_ =>
    obtain ⟨a, t⟩ := at_
    refine (poll_some s m u h.dk hs hm hg (by have := h.lp50 a.data.toList; have := h.ll; omega)).mono ?_
    rintro e u' ⟨v, rfl, ho, hf, hk⟩
    obtain ⟨A, c, rfl, -, -⟩ := ho.form
    exact ⟨A, c, rfl, ho.rd.more hk, hf⟩
theorem rf_poll (h : Md w d p n f vL vR l R l R.length (gOf R) u) (hn : n ≤ 1000) (s : ByteArray) (m : Int) (hm : In64 m) :
    Calls Tryz.prog 10 #[.pointer (some ⟨p, 0, none⟩), .string s, .int .i64 m] u fun e u' => ∃ A c, e = .returned (.tuple #[.slice A (pollX (evsL bk0 l) (gOf R) s.data.toList m).1.length c, .int .i64 (pollX (evsL bk0 l) (gOf R) s.data.toList m).2]) ∧ Rd u' (fun k => u.heap.size ≤ k) 5 A (pollX (evsL bk0 l) (gOf R) s.data.toList m).1.length (evs (pollX (evsL bk0 l) (gOf R) s.data.toList m).1) ∧ Fr No u u' := by
  unfold pollX
  cases hg : gOf R s.data.toList with
  | none =>
    refine (refpoll_none s m u h.d2 (by have := h.rl; omega) hg).mono ?_
    rintro e u' ⟨rfl, rfl⟩
    exact ⟨none, 0, rfl, (Own.nil u' 71 5).rd.more fun k hk => by simp [Value.ownBlock] at hk, Fr.refl _ _⟩
  | some at_ =>
    obtain ⟨a, t⟩ := at_
    refine (refpoll_some s m u h.d2 h.below (by have := h.rl; omega) (by have := h.ll; omega) (fun o ho => by have := h.lg o ho; omega) hm hg (h.dk.tk _ _ hg).2).mono ?_
    rintro e u' ⟨A, c, rfl, ho, hf⟩
    exact ⟨A, c, rfl, ho, hf⟩
/-- the readers behind a move, the program's answer -/
def mvE (E : List UInt8 → List Ev) (g : List UInt8 → Option Rdr) (s : List UInt8) (m : Int) (back : Bool) : Int := match g s with | none => 6 | some (a, t) => moveE m (mostR (E a.data.toList).length t back : Nat)
def mvG (E : List UInt8 → List Ev) (g : List UInt8 → Option Rdr) (s : List UInt8) (m : Int) (back : Bool) : List UInt8 → Option Rdr := match g s with | none => g | some (a, t) => tookG g s a (toR t m back) (moveE m (mostR (E a.data.toList).length t back : Nat))
theorem st_take (h : Md w d p n f vL vR l R l R.length (gOf R) u) (hn : n ≤ 1000) (hq : Bq q cs u) (s : ByteArray) (m : Int) (hs : s.size ≤ maxLen) (hm : In64 m) :
    Calls Tryz.prog 13 #[.pointer (some ⟨d.p, 0, none⟩), .string s, .int .i64 m] u fun e u' => e = .returned (.int .i64 (mvE (evsL bk0 l) (gOf R) s.data.toList m false)) ∧ Md w d p n f vL vR l R l R.length (mvG (evsL bk0 l) (gOf R) s.data.toList m false) u' ∧ Bq q cs u' := by
  unfold mvE mvG
  cases hg : gOf R s.data.toList with
  | none =>
    refine (take_none s m u h.dk hs hg).mono ?_
    rintro e u' ⟨rfl, hf⟩
    exact ⟨rfl, h.no hf, hq.no hf⟩
  | some at_ =>
    obtain ⟨a, t⟩ := at_
    refine (take_some s m u h.dk hs (by have := h.rl; omega) hm hg (by have := h.lp50 a.data.toList; have := h.ll; omega)).mono ?_
    rintro e u' ⟨rfl, hd, hf⟩
    exact ⟨rfl, h.prog hf (fun i hi => .inr (.inr (.inr hi))) hd h.new, hq.prog h hf fun i hi => .inr (.inr (.inr hi))⟩
theorem st_back (h : Md w d p n f vL vR l R l R.length (gOf R) u) (hn : n ≤ 1000) (hq : Bq q cs u) (s : ByteArray) (m : Int) (hs : s.size ≤ maxLen) (hm : In64 m) :
    Calls Tryz.prog 15 #[.pointer (some ⟨d.p, 0, none⟩), .string s, .int .i64 m] u fun e u' => e = .returned (.int .i64 (mvE (evsL bk0 l) (gOf R) s.data.toList m true)) ∧ Md w d p n f vL vR l R l R.length (mvG (evsL bk0 l) (gOf R) s.data.toList m true) u' ∧ Bq q cs u' := by
  unfold mvE mvG
  cases hg : gOf R s.data.toList with
  | none =>
    refine (back_none s m u h.dk hs hg).mono ?_
    rintro e u' ⟨rfl, hf⟩
    exact ⟨rfl, h.no hf, hq.no hf⟩
  | some at_ =>
    obtain ⟨a, t⟩ := at_
    refine (back_some s m u h.dk hs (by have := h.rl; omega) hm hg (by have := h.lp50 a.data.toList; have := h.ll; omega)).mono ?_
    rintro e u' ⟨rfl, hd, hf⟩
    exact ⟨rfl, h.prog hf (fun i hi => .inr (.inr (.inr hi))) hd h.new, hq.prog h hf fun i hi => .inr (.inr (.inr hi))⟩
theorem rf_move {s : ByteArray} {m : Int} {back : Bool} (h : Md w d p n f vL vR l R l R.length (mvG (evsL bk0 l) (gOf R) s.data.toList m back) u) (ht : ∀ nm r, gOf R nm = some r → r.2 ≤ (evsL bk0 l r.1.data.toList).length) (hn : n ≤ 900) (hq : Bq q cs u) (hm : In64 m) :
    Calls Tryz.prog 14 #[.pointer (some ⟨p, 0, none⟩), .string s, .int .i64 m, .bool back] u fun e u' => e = .returned (.int .i64 (mvE (evsL bk0 l) (gOf R) s.data.toList m back)) ∧ Pn w d p (n + 1) u' ∧ Bq q cs u' := by
  unfold mvE
  unfold mvG at h
  cases hg : gOf R s.data.toList with
  | none =>
    rw [hg] at h
    refine (refmove_none s m back u h.d2 (by have := h.rl; omega) hg).mono ?_
    rintro e u' ⟨rfl, rfl⟩
    exact ⟨rfl, ⟨f, vL, vR, l, R, h.more (Nat.le_succ _)⟩, hq⟩
  | some at_ =>
    obtain ⟨a, t⟩ := at_
    rw [hg] at h
    refine (refmove_some s m back u h.d2 h.below (by have := h.rl; omega) (by have := h.ll; omega) (fun o ho => by have := h.lg o ho; omega) hm hg (ht _ _ hg)).mono ?_
    rintro e u' ⟨rfl, R', hd, hgR, hlR, hf⟩
    refine ⟨rfl, ⟨f, vL, vR, l, R', ?_⟩, hq.ref hf⟩
    rw [hgR, hlR]
    exact h.ref hf hd (Nat.le_succ_of_le h.ll) (by rw [hlR]; exact Nat.le_succ_of_le h.rl) h.lg
/-- where a reader stands, the program's answer -/
theorem st_at (h : Md w d p n f vL vR l R l R.length (gOf R) u) (s : ByteArray) (hs : s.size ≤ maxLen) :
    Calls Tryz.prog 16 #[.pointer (some ⟨d.p, 0, none⟩), .string s] u fun e u' => (∃ (t : Nat) (x : Int), e = .returned (.tuple #[.int .i64 (t : Int), .int .i64 x]) ∧ ((gOf R s.data.toList = none ∧ t = 0 ∧ x = 6) ∨ ∃ a, gOf R s.data.toList = some (a, t) ∧ x = 0)) ∧ Fr No u u' := by
  cases hg : gOf R s.data.toList with
  | none =>
    refine (at_none s u h.dk hs hg).mono ?_
    rintro e u' ⟨rfl, hf⟩
    exact ⟨⟨0, 6, rfl, .inl ⟨rfl, rfl, rfl⟩⟩, hf⟩
  | some at_ =>
    obtain ⟨a, t⟩ := at_
    refine (at_some s u h.dk hs hg).mono ?_
    rintro e u' ⟨rfl, hf⟩
    exact ⟨⟨t, 0, rfl, .inr ⟨a, rfl, rfl⟩⟩, hf⟩
theorem Md.tk (h : Md w d p n f vL vR l R l R.length (gOf R) u) : ∀ nm r, gOf R nm = some r → r.2 ≤ (evsL bk0 l r.1.data.toList).length := fun nm r hr => (h.dk.tk nm r hr).2
end
end Go.Proofs.YtjbeaoabhhaiiaaGreat
