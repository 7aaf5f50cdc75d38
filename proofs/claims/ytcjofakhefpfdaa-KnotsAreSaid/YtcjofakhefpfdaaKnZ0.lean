/- The walk depth first: the way to where it is, in memory. -/
import Derived.Test.YtcjofakhefpfdaaKnY0
import Derived.Test.YtcjofakhefpfdaaKnM7
namespace Go.Proofs.Ytcjofakhefpfdaa
open Go.RowKit Go.My Go.Maps
set_option linter.unusedSimpArgs false
set_option linter.unusedVariables false

/-- a cell of a row of one's own, at any element's size -/
theorem own_put {w : World} {t : TypeId} {size g n c : Nat} {xs : List Value} (h : Own w t size (.slice (some ⟨g, 0, none⟩) n c) n xs) (i : Nat) (hi : i < xs.length) (v : Value) :
    Own (w.setCell ⟨g, i, none⟩ v) t size (.slice (some ⟨g, 0, none⟩) n c) n (xs.set i v) ∧ w.cell? ⟨g, i, none⟩ = xs[i]? ∧ w.frozen? ⟨g, i, none⟩ = false := by
  obtain ⟨h1, h2⟩ := h
  rcases h2 with ⟨hv, h0⟩ | ⟨g', cap, cur, hv, hg, hn, hm, hs, ht⟩
  · cases hv
  · injection hv with hA hn2 hc
    injection hA with hA
    injection hA with hA
    subst hA hc
    have hg : Blk w g t cur := hg
    refine ⟨⟨by rw [List.length_set]; exact h1, .inr ⟨g, c, _, rfl, hg.set_ i v, hn, hm, by rw [Array.size_setIfInBounds]; exact hs, ?_⟩⟩, ?_, hg.frozen i⟩
    · rw [Array.toList_setIfInBounds, List.take_set, ht]
    · rw [hg.cell i, ← ht, List.getElem?_take_of_lt (by rw [h1] at hi; exact hi), Array.getElem?_toList]
theorem own_take2 {w : World} {t : TypeId} {size : Nat} {A : Option Addr} {n c k : Nat} {xs : List Value} (h : Own w t size (.slice A n c) n xs) (hk : k ≤ n) : Own w t size (.slice A k c) k (xs.take (k * size)) := by
  obtain ⟨h1, h2⟩ := h
  have h3 : k * size ≤ n * size := Nat.mul_le_mul_right _ hk
  refine ⟨by rw [List.length_take]; omega, ?_⟩
  rcases h2 with ⟨hv, h0⟩ | ⟨g, cap, cur, hv, hg, hn, hm, hs, ht⟩
  · injection hv with hA hn hc
    subst hA hc h0
    obtain rfl : k = 0 := by omega
    exact .inl ⟨rfl, rfl⟩
  · injection hv with hA hn2 hc
    subst hA hc
    refine .inr ⟨g, c, cur, rfl, hg, by omega, hm, hs, ?_⟩
    rw [← ht, List.take_take, Nat.min_eq_left h3]

/-- the way, as cells: the last place at the end -/
def pv : List (Nat × Nat) → List Value
  | [] => []
  | (v, k) :: R => pv R ++ [.int .i64 (v : Int), .int .i64 (k : Int)]
theorem pv_len : ∀ P : List (Nat × Nat), (pv P).length = P.length * 2
  | [] => rfl
  | (v, k) :: R => by rw [pv, List.length_append, pv_len R, List.length_cons]; simp; omega
/-- the way in memory -/
def PaM (B : Nat) (w : World) (pa : Option Addr) (pc : Nat) (P : List (Nat × Nat)) : Prop :=
  Own w 59 2 (.slice pa P.length pc) P.length (pv P) ∧ ∀ k, (Value.slice pa P.length pc).ownBlock = some k → B ≤ k
section
variable {B : Nat} {w w' : World} {pa : Option Addr} {pc : Nat} {P R : List (Nat × Nat)} {v k : Nat}
theorem PaM.fr (h : PaM B w pa pc P) (hf : Fr (WkC B w) w w') : PaM B w' pa pc P :=
  ⟨h.1.fr hf fun b hb hS => by obtain ⟨c, hc⟩ := h.1.blk b hb; exact hS.2 c hc, h.2⟩
theorem PaM.last (h : PaM B w pa pc ((v, k) :: R)) : ∃ g, pa = some ⟨g, 0, none⟩ ∧ B ≤ g ∧ R.length + 1 ≤ pc ∧ (∃ c, Blk w g 59 c) ∧ w.cell? ⟨g, R.length * 2, none⟩ = some (.int .i64 (v : Int)) ∧ w.cell? ⟨g, R.length * 2 + 1, none⟩ = some (.int .i64 (k : Int)) ∧
    w.frozen? ⟨g, R.length * 2 + 1, none⟩ = false ∧ PaM B (w.setCell ⟨g, R.length * 2 + 1, none⟩ (.int .i64 ((k + 1 : Nat) : Int))) pa pc ((v, k + 1) :: R) := by
  obtain ⟨h1, h2⟩ := h
  obtain ⟨g, c, cur, hv, hg, hc, _⟩ := h1.formPos (by simp)
  have hv' := hv
  injection hv with hpa _ hpc
  subst hpa hpc
  have hl : (pv ((v, k) :: R)).length = R.length * 2 + 2 := by rw [pv_len, List.length_cons]; omega
  have a0 : (pv ((v, k) :: R))[R.length * 2]? = some (.int .i64 (v : Int)) := by
    rw [pv, List.getElem?_append_right (by rw [pv_len]; exact Nat.le_refl _), pv_len, Nat.sub_self]; rfl
  have a1 : (pv ((v, k) :: R))[R.length * 2 + 1]? = some (.int .i64 (k : Int)) := by
    rw [pv, List.getElem?_append_right (by rw [pv_len]; omega), pv_len, show R.length * 2 + 1 - R.length * 2 = 1 by omega]; rfl
  have p0 := own_put h1 (R.length * 2) (by omega) (.int .i64 0)
  have p1 := own_put h1 (R.length * 2 + 1) (by omega) (.int .i64 ((k + 1 : Nat) : Int))
  refine ⟨g, rfl, h2 g rfl, hc, ⟨cur, hg⟩, p0.2.1.trans a0, p1.2.1.trans a1, p1.2.2, ?_, h2⟩
  have e : (pv ((v, k) :: R)).set (R.length * 2 + 1) (.int .i64 ((k + 1 : Nat) : Int)) = pv ((v, k + 1) :: R) := by
    rw [pv, pv, List.set_append_right _ _ (by rw [pv_len]; omega), pv_len, show R.length * 2 + 1 - R.length * 2 = 1 by omega]; rfl
  have := p1.1
  rw [e] at this
  exact this
theorem PaM.pop (h : PaM B w pa pc ((v, k) :: R)) : PaM B w pa pc R := by
  refine ⟨?_, fun b hb => h.2 b (by cases pa with | none => exact hb | some a => exact hb)⟩
  have := own_take2 h.1 (k := R.length) (by simp)
  rwa [pv, ← pv_len, List.take_left] at this
theorem PaM.le (h : PaM B w pa pc P) : P.length ≤ pc := by
  obtain ⟨_, _, hf, hc, _⟩ := h.1.form
  injection hf with _ _ hf
  subst hf
  exact hc
end

/-- the least of two on the way -/
theorem lower_mem {B : Nat} {w : World} {q : Nat} {p : Wp} {n : Nat} {G : List (List Int)} {s : Ts} (h : WkS B w q p n G s) (v a : Nat) (hv : v < n) (m : Nat) (hm : m = min (s.low v) a) :
    WkN B w q n G (s.lower v a) (w.setCell ⟨p.pl, v, none⟩ (.int .i64 (m : Int))) ∧ WkS B (w.setCell ⟨p.pl, v, none⟩ (.int .i64 (m : Int))) q p n G (s.lower v a) := by
  subst hm
  obtain ⟨cu1, bs1⟩ := blk_ps h
  obtain ⟨cu2, bs2⟩ := blk_pl h
  obtain ⟨cu3, bs3⟩ := blk_pb h
  have e2 : q ≠ p.pl := Blk.ne_ h.blk bs2 (by decide)
  have e6 : p.pl ≠ p.pb := Blk.ne_ bs2 bs3 (by decide)
  obtain ⟨o2, _, _⟩ := h.low.store v hv (.int .i64 ((min (s.low v) a : Nat) : Int))
  have hF : Fr (WkT q p s) w (w.setCell ⟨p.pl, v, none⟩ (.int .i64 ((min (s.low v) a : Nat) : Int))) := (Fr.refl _ w).setCell (p := ⟨p.pl, v, none⟩) (fun _ => .inr (.inr (.inl rfl))) _
  obtain ⟨vs, KB, hd⟩ := h.found
  obtain ⟨f1, f2, f3⟩ := h.ffr hF hd
  have hS : WkS B (w.setCell ⟨p.pl, v, none⟩ (.int .i64 ((min (s.low v) a : Nat) : Int))) q p n G (s.lower v a) := {
    blk := h.blk.far (p := ⟨p.pl, v, none⟩) e2 _
    g := h.gfr hF
    gl := h.gl
    seen := h.seen.setCell (p := ⟨p.pl, v, none⟩) (by intro e; injection e with e; exact h.ap.1 e) _
    low := by rw [ns_set _ _ _ _ hv] at o2; exact o2
    mark := h.mark.setCell (p := ⟨p.pl, v, none⟩) (by intro e; injection e with e; exact e6 e.symm) _
    loose := h.loose.setCell (p := ⟨p.pl, v, none⟩) h.ap.2.2 _
    found := ⟨vs, KB, f1, fun k hk => by
      obtain ⟨g0, g1, g2, g3, g4, _⟩ := hd.new k hk
      exact ⟨g0, (f2 k hk).1, g2, g3, g4, (f2 k hk).2⟩, f3⟩
    new := h.new
    ap := h.ap }
  exact ⟨⟨p, hS, hF.mono fun k _ hk => h.wkc hk⟩, hS⟩
/-- the way's own cell may be written -/
theorem WkS.way {B : Nat} {w : World} {q : Nat} {p : Wp} {n : Nat} {G : List (List Int)} {s : Ts} (h : WkS B w q p n G s) {g i : Nat} {cv : Array Value} (hg : Blk w g 59 cv) (hB : B ≤ g) (u : Value) : WkS B (w.setCell ⟨g, i, none⟩ u) q p n G s := by
  obtain ⟨cu1, bs1⟩ := blk_ps h
  obtain ⟨cu2, bs2⟩ := blk_pl h
  obtain ⟨cu3, bs3⟩ := blk_pb h
  have hF : Fr (At1 g) w (w.setCell ⟨g, i, none⟩ u) := fr_set _ _ _ _
  obtain ⟨vs, KB, hd⟩ := h.found
  have hK : ∀ k, KB k → ¬ At1 g k := fun k hk e => by
    obtain ⟨_, _, _, _, _, cur, h5⟩ := hd.new k hk
    have e : k = g := e
    subst e
    exact Blk.ne_ hg h5 (by decide) rfl
  exact {
    blk := h.blk.fr hF (Blk.ne_ h.blk hg (by decide))
    g := h.g.fr hF fun k hk _ e => by have e : k = g := e; omega
    gl := h.gl
    seen := h.seen.setCell (p := ⟨g, i, none⟩) (h.seen.ne_ hg (by decide)) _
    low := h.low.setCell (p := ⟨g, i, none⟩) (h.low.ne_ hg (by decide)) _
    mark := h.mark.setCell (p := ⟨g, i, none⟩) (h.mark.ne_ hg (by decide)) _
    loose := h.loose.setCell (p := ⟨g, i, none⟩) (h.loose.ne_ hg (by decide)) _
    found := ⟨vs, KB, hd.out.setCell (p := ⟨g, i, none⟩) (hd.out.ne_ hg (by decide)) _, fun k hk => by
      obtain ⟨g0, g1, g2, g3, g4, cur, g5⟩ := hd.new k hk
      exact ⟨g0, by rw [World.size_setCell]; exact g1, g2, g3, g4, cur, g5.fr hF (hK k hk)⟩, fun i K hi => by
      obtain ⟨A', c, r1, r2, r3⟩ := hd.row i K hi
      exact ⟨A', c, r1, r2.fr (by omega) hF fun k hk _ => hK k hk, r3⟩⟩
    new := h.new
    ap := h.ap }
end Go.Proofs.Ytcjofakhefpfdaa
