/- The walk's steps: of no program. The walk depth first: the way to where it is, in memory. The walk depth first: a place is met. The walk depth first: a knot is tied. The walk depth first: bounds, and what holds on the way. -/
import Derived.Test.YtcpgamidimfflaaGreatQ01
import Derived.Test.YtcpgamidimfflaaGreatQ26
set_option linter.unusedVariables false
set_option linter.unusedSimpArgs false
namespace Go.My
section
variable {n : Nat} {G : Nat → List Nat} {s : Ts} {R : List (Nat × Nat)} {v k : Nat}
theorem TI.reach (h : TI n G s ((v, k) :: R)) : ∀ g j, (g, j) ∈ (v, k) :: R → Rch G g v := fun g j hg => by
  have hv := h.pl v k List.mem_cons_self
  refine h.fromG g j hg v hv ?_
  rcases List.mem_cons.1 hg with e | hg
  · injection e with e _; rw [e]; exact Nat.le_refl _
  · have := h.pd
    rw [List.pairwise_cons] at this
    exact Nat.le_of_lt (this.1 (g, j) hg)
theorem from_meet (h : TI n G s ((v, k) :: R)) (hk : k < (G v).length) (h0 : s.seen (G v)[k] = 0) (hG : ∀ x, x < n → ∀ y ∈ G x, y < n) : TI n G (s.meet (G v)[k]) (((G v)[k], 0) :: (v, k + 1) :: R) := by
  have hvl := h.pl v k List.mem_cons_self
  have hv0 := h.lseen v hvl
  have hvn := h.rng v hv0
  have hx : (G v)[k] < n := hG v hvn _ (List.getElem_mem hk)
  have h1 := h.meet hx h0 fun g j hg => (h.reach g j hg).step (List.getElem_mem hk)
  have hne : v ≠ (G v)[k] := fun e => hv0 (by rw [e]; exact h0)
  refine h1.bump (A := [((G v)[k], 0)]) hk ?_ fun _ => ?_
  · show upN s.seen (G v)[k] (s.met + 1) (G v)[k] ≠ 0
    rw [upN_at]; omega
  · show upN s.low (G v)[k] (s.met + 1) v ≤ upN s.seen (G v)[k] (s.met + 1) (G v)[k]
    rw [upN_at, upN_ne _ _ hne]
    have := (h.low1 v k List.mem_cons_self).1
    have := h.le v
    omega
theorem from_low (h : TI n G s ((v, k) :: R)) (hk : k < (G v).length) (hs : s.seen (G v)[k] ≠ 0) (hl : (G v)[k] ∈ s.loose) : TI n G (s.lower v (s.seen (G v)[k])) ((v, k + 1) :: R) := by
  have h1 := h.lower List.mem_cons_self hl (Rch.one (List.getElem_mem hk))
  refine h1.bump (A := []) hk hs fun _ => ?_
  show upN s.low v (min (s.low v) (s.seen (G v)[k])) v ≤ s.seen (G v)[k]
  rw [upN_at]; exact Nat.min_le_right _ _
theorem from_skip (h : TI n G s ((v, k) :: R)) (hk : k < (G v).length) (hs : s.seen (G v)[k] ≠ 0) (hl : (G v)[k] ∉ s.loose) : TI n G s ((v, k + 1) :: R) :=
  h.bump (A := []) hk hs fun e => absurd e hl
theorem from_tie (h : TI n G s ((v, (G v).length) :: R)) (hl : s.low v = s.seen v) : ∃ A B, s.loose = A ++ v :: B ∧ v ∉ B ∧
    ∀ K : List Nat, K.Pairwise (· < ·) → (∀ x, x ∈ K ↔ x ∈ v :: B) → TI n G (s.tie A K) R ∧ ∀ u j R', R = (u, j) :: R' → (s.tie A K).lower u (s.low v) = s.tie A K := by
  have hvl := h.pl v _ List.mem_cons_self
  obtain ⟨A, B, e⟩ := List.append_of_mem hvl
  have hnd := h.nodup
  rw [e] at hnd
  have hvB : v ∉ B := by
    have := (List.nodup_append.1 hnd).2.1
    exact (List.nodup_cons.1 this).1
  refine ⟨A, B, e, hvB, fun K hK hm => ⟨h.tie hl e hK hm, fun u j R' hR => ?_⟩⟩
  subst hR
  have hpd := h.pd
  rw [List.pairwise_cons] at hpd
  have hu := hpd.1 (u, j) List.mem_cons_self
  have hlu := (h.low1 u j (List.mem_cons_of_mem _ List.mem_cons_self)).1
  unfold Ts.lower Ts.tie
  have : upN s.low u (min (s.low u) (s.low v)) = s.low := by
    funext x
    by_cases e : x = u
    · rw [e, upN_at]; exact Nat.min_eq_left (by have hu' : s.seen u < s.seen v := hu; omega)
    · exact upN_ne _ _ e
  simp only [this]
theorem from_pop (h : TI n G s ((v, (G v).length) :: R)) (hl : s.low v ≠ s.seen v) : ∃ u j R', R = (u, j) :: R' ∧ TI n G (s.lower u (s.low v)) R := by
  have hlt : s.low v < s.seen v := by
    have := (h.low1 v _ List.mem_cons_self).1
    omega
  obtain ⟨u, j, R', rfl⟩ := h.pop_more hlt
  exact ⟨u, j, R', rfl, h.pop hlt⟩
def uns (s : Ts) (n : Nat) : Nat := ((List.range n).filter fun x => s.seen x == 0).length
theorem uns_meet {x : Nat} (hx : x < n) (h0 : s.seen x = 0) : uns (s.meet x) n + 1 = uns s n := by
  unfold uns
  have key : ∀ l : List Nat, l.Nodup → (l.filter fun y => (s.meet x).seen y == 0).length + (if x ∈ l then 1 else 0) = (l.filter fun y => s.seen y == 0).length := by
    intro l hl
    induction l with
    | nil => rfl
    | cons a l ih =>
      rw [List.nodup_cons] at hl
      have ih := ih hl.2
      rw [List.filter_cons, List.filter_cons]
      by_cases e : a = x
      · subst e
        have h1 : ((s.meet a).seen a == 0) = false := by
          show (upN s.seen a (s.met + 1) a == 0) = false
          rw [upN_at]; simp
        have h2 : (s.seen a == 0) = true := by simpa using h0
        rw [h1, h2, if_pos List.mem_cons_self]
        rw [if_neg hl.1] at ih
        simp only [Bool.false_eq_true, if_false, if_true, List.length_cons]
        omega
      · have h1 : (s.meet x).seen a = s.seen a := upN_ne _ _ e
        rw [h1]
        have h3 : (x ∈ a :: l) ↔ x ∈ l := by rw [List.mem_cons]; exact ⟨fun h => h.resolve_left fun e2 => e e2.symm, .inr⟩
        simp only [h3]
        cases hc : s.seen a == 0
        · simp only [Bool.false_eq_true, if_false]; exact ih
        · simp only [if_true, List.length_cons]; omega
  have := key (List.range n) List.nodup_range
  rw [if_pos (List.mem_range.2 hx)] at this
  exact this
theorem TI.all (h : TI n G s []) (hs : ∀ x, x < n → s.seen x ≠ 0) : (∀ K ∈ s.found, IsKnot G K) ∧ (∀ x, x < n ↔ ∃ K ∈ s.found, x ∈ K) ∧ s.found.flatten.Nodup := by
  refine ⟨h.fd, fun x => ⟨fun hx => (h.fmem x).1 ⟨hs x hx, by rw [h.empty]; exact List.not_mem_nil⟩, fun hx => h.rng x ((h.fmem x).2 hx).1⟩, h.fnd⟩
end
end Go.My
namespace Go.Proofs.YtcpgamidimfflaaGreat
open Go.RowKit Go.My Go.Maps
set_option linter.unusedSimpArgs false
set_option linter.unusedVariables false
theorem own_put {w : World} {t : TypeId} {size g n c : Nat} {xs : List Value} (h : Own w t size (.slice (some ⟨g, 0, none⟩) n c) n xs) (i : Nat) (hi : i < xs.length) (v : Value) :
    Own (w.setCell ⟨g, i, none⟩ v) t size (.slice (some ⟨g, 0, none⟩) n c) n (xs.set i v) ∧ w.cell? ⟨g, i, none⟩ = xs[i]? ∧ w.frozen? ⟨g, i, none⟩ = false := by
  obtain ⟨h1, h2⟩ := h
  rcases h2 with ⟨hv, h0⟩ | ⟨g', cap, cur, hv, hg, hn, hm, hs, ht⟩
  · cases hv
  · injection hv with hA hn2 hc
    injection hA with hA
    injection hA with hA
    subst hA hc
    have hg : Blk w g t cur := hg
    refine ⟨⟨by rw [List.length_set]; exact h1, .inr ⟨g, c, _, rfl, hg.set_ i v, hn, hm, by rw [Array.size_setIfInBounds]; exact hs, ?_⟩⟩, ?_, hg.frozen i⟩
    · rw [Array.toList_setIfInBounds, List.take_set, ht]
    · rw [hg.cell i, ← ht, List.getElem?_take_of_lt (by rw [h1] at hi; exact hi), Array.getElem?_toList]
theorem own_take2 {w : World} {t : TypeId} {size : Nat} {A : Option Addr} {n c k : Nat} {xs : List Value} (h : Own w t size (.slice A n c) n xs) (hk : k ≤ n) : Own w t size (.slice A k c) k (xs.take (k * size)) := by
  obtain ⟨h1, h2⟩ := h
  have h3 : k * size ≤ n * size := Nat.mul_le_mul_right _ hk
  refine ⟨by rw [List.length_take]; omega, ?_⟩
  rcases h2 with ⟨hv, h0⟩ | ⟨g, cap, cur, hv, hg, hn, hm, hs, ht⟩
  · injection hv with hA hn hc
    subst hA hc h0
    obtain rfl : k = 0 := by omega
    exact .inl ⟨rfl, rfl⟩
  · injection hv with hA hn2 hc
    subst hA hc
    refine .inr ⟨g, c, cur, rfl, hg, by omega, hm, hs, ?_⟩
    rw [← ht, List.take_take, Nat.min_eq_left h3]
def pv : List (Nat × Nat) → List Value
  | [] => []
  | (v, k) :: R => pv R ++ [.int .i64 (v : Int), .int .i64 (k : Int)]
theorem pv_len : ∀ P : List (Nat × Nat), (pv P).length = P.length * 2
  | [] => rfl
  | (v, k) :: R => by rw [pv, List.length_append, pv_len R, List.length_cons]; simp; omega
def PaM (B : Nat) (w : World) (pa : Option Addr) (pc : Nat) (P : List (Nat × Nat)) : Prop :=
  Own w 292 2 (.slice pa P.length pc) P.length (pv P) ∧ ∀ k, (Value.slice pa P.length pc).ownBlock = some k → B ≤ k
section
variable {B : Nat} {w w' : World} {pa : Option Addr} {pc : Nat} {P R : List (Nat × Nat)} {v k : Nat}
theorem PaM.fr (h : PaM B w pa pc P) (hf : Fr (WkC B w) w w') : PaM B w' pa pc P :=
  ⟨h.1.fr hf fun b hb hS => by obtain ⟨c, hc⟩ := h.1.blk b hb; exact hS.2 c hc, h.2⟩
theorem PaM.last (h : PaM B w pa pc ((v, k) :: R)) : ∃ g, pa = some ⟨g, 0, none⟩ ∧ B ≤ g ∧ R.length + 1 ≤ pc ∧ (∃ c, Blk w g 292 c) ∧ w.cell? ⟨g, R.length * 2, none⟩ = some (.int .i64 (v : Int)) ∧ w.cell? ⟨g, R.length * 2 + 1, none⟩ = some (.int .i64 (k : Int)) ∧
    w.frozen? ⟨g, R.length * 2 + 1, none⟩ = false ∧ PaM B (w.setCell ⟨g, R.length * 2 + 1, none⟩ (.int .i64 ((k + 1 : Nat) : Int))) pa pc ((v, k + 1) :: R) := by
  obtain ⟨h1, h2⟩ := h
  obtain ⟨g, c, cur, hv, hg, hc, _⟩ := h1.formPos (by simp)
  have hv' := hv
  injection hv with hpa _ hpc
  subst hpa hpc
  have hl : (pv ((v, k) :: R)).length = R.length * 2 + 2 := by rw [pv_len, List.length_cons]; omega
  have a0 : (pv ((v, k) :: R))[R.length * 2]? = some (.int .i64 (v : Int)) := by
    rw [pv, List.getElem?_append_right (by rw [pv_len]; exact Nat.le_refl _), pv_len, Nat.sub_self]; rfl
  have a1 : (pv ((v, k) :: R))[R.length * 2 + 1]? = some (.int .i64 (k : Int)) := by
    rw [pv, List.getElem?_append_right (by rw [pv_len]; omega), pv_len, show R.length * 2 + 1 - R.length * 2 = 1 by omega]; rfl
  have p0 := own_put h1 (R.length * 2) (by omega) (.int .i64 0)
  have p1 := own_put h1 (R.length * 2 + 1) (by omega) (.int .i64 ((k + 1 : Nat) : Int))
  refine ⟨g, rfl, h2 g rfl, hc, ⟨cur, hg⟩, p0.2.1.trans a0, p1.2.1.trans a1, p1.2.2, ?_, h2⟩
  have e : (pv ((v, k) :: R)).set (R.length * 2 + 1) (.int .i64 ((k + 1 : Nat) : Int)) = pv ((v, k + 1) :: R) := by
    rw [pv, pv, List.set_append_right _ _ (by rw [pv_len]; omega), pv_len, show R.length * 2 + 1 - R.length * 2 = 1 by omega]; rfl
  have := p1.1
  rw [e] at this
  exact this
theorem PaM.pop (h : PaM B w pa pc ((v, k) :: R)) : PaM B w pa pc R := by
  refine ⟨?_, fun b hb => h.2 b (by cases pa with | none => exact hb | some a => exact hb)⟩
  have := own_take2 h.1 (k := R.length) (by simp)
  rwa [pv, ← pv_len, List.take_left] at this
theorem PaM.le (h : PaM B w pa pc P) : P.length ≤ pc := by
  obtain ⟨_, _, hf, hc, _⟩ := h.1.form
  injection hf with _ _ hf
  subst hf
  exact hc
end
theorem lower_mem {B : Nat} {w : World} {q : Nat} {p : Wp} {n : Nat} {G : List (List Int)} {s : Ts} (h : WkS B w q p n G s) (v a : Nat) (hv : v < n) (m : Nat) (hm : m = min (s.low v) a) :
    WkN B w q n G (s.lower v a) (w.setCell ⟨p.pl, v, none⟩ (.int .i64 (m : Int))) ∧ WkS B (w.setCell ⟨p.pl, v, none⟩ (.int .i64 (m : Int))) q p n G (s.lower v a) := by
  subst hm
  obtain ⟨cu1, bs1⟩ := blk_ps h
  obtain ⟨cu2, bs2⟩ := blk_pl h
  obtain ⟨cu3, bs3⟩ := blk_pb h
  have e2 : q ≠ p.pl := Blk.ne_ h.blk bs2 (by decide)
  have e6 : p.pl ≠ p.pb := Blk.ne_ bs2 bs3 (by decide)
  obtain ⟨o2, _, _⟩ := h.low.store v hv (.int .i64 ((min (s.low v) a : Nat) : Int))
  have hF : Fr (WkT q p s) w (w.setCell ⟨p.pl, v, none⟩ (.int .i64 ((min (s.low v) a : Nat) : Int))) := (Fr.refl _ w).setCell (p := ⟨p.pl, v, none⟩) (fun _ => .inr (.inr (.inl rfl))) _
  obtain ⟨vs, KB, hd⟩ := h.found
  obtain ⟨f1, f2, f3⟩ := h.ffr hF hd
  have hS : WkS B (w.setCell ⟨p.pl, v, none⟩ (.int .i64 ((min (s.low v) a : Nat) : Int))) q p n G (s.lower v a) := {
    blk := h.blk.far (p := ⟨p.pl, v, none⟩) e2 _
    g := h.gfr hF
    gl := h.gl
    seen := h.seen.setCell (p := ⟨p.pl, v, none⟩) (by intro e; injection e with e; exact h.ap.1 e) _
    low := by rw [ns_set _ _ _ _ hv] at o2; exact o2
    mark := h.mark.setCell (p := ⟨p.pl, v, none⟩) (by intro e; injection e with e; exact e6 e.symm) _
    loose := h.loose.setCell (p := ⟨p.pl, v, none⟩) h.ap.2.2 _
    found := ⟨vs, KB, f1, fun k hk => by
      obtain ⟨g0, g1, g2, g3, g4, _⟩ := hd.new k hk
      exact ⟨g0, (f2 k hk).1, g2, g3, g4, (f2 k hk).2⟩, f3⟩
    new := h.new
    ap := h.ap }
  exact ⟨⟨p, hS, hF.mono fun k _ hk => h.wkc hk⟩, hS⟩
theorem WkS.way {B : Nat} {w : World} {q : Nat} {p : Wp} {n : Nat} {G : List (List Int)} {s : Ts} (h : WkS B w q p n G s) {g i : Nat} {cv : Array Value} (hg : Blk w g 292 cv) (hB : B ≤ g) (u : Value) : WkS B (w.setCell ⟨g, i, none⟩ u) q p n G s := by
  obtain ⟨cu1, bs1⟩ := blk_ps h
  obtain ⟨cu2, bs2⟩ := blk_pl h
  obtain ⟨cu3, bs3⟩ := blk_pb h
  have hF : Fr (At1 g) w (w.setCell ⟨g, i, none⟩ u) := fr_set _ _ _ _
  obtain ⟨vs, KB, hd⟩ := h.found
  have hK : ∀ k, KB k → ¬ At1 g k := fun k hk e => by
    obtain ⟨_, _, _, _, _, cur, h5⟩ := hd.new k hk
    have e : k = g := e
    subst e
    exact Blk.ne_ hg h5 (by decide) rfl
  exact {
    blk := h.blk.fr hF (Blk.ne_ h.blk hg (by decide))
    g := h.g.fr hF fun k hk _ e => by have e : k = g := e; omega
    gl := h.gl
    seen := h.seen.setCell (p := ⟨g, i, none⟩) (h.seen.ne_ hg (by decide)) _
    low := h.low.setCell (p := ⟨g, i, none⟩) (h.low.ne_ hg (by decide)) _
    mark := h.mark.setCell (p := ⟨g, i, none⟩) (h.mark.ne_ hg (by decide)) _
    loose := h.loose.setCell (p := ⟨g, i, none⟩) (h.loose.ne_ hg (by decide)) _
    found := ⟨vs, KB, hd.out.setCell (p := ⟨g, i, none⟩) (hd.out.ne_ hg (by decide)) _, fun k hk => by
      obtain ⟨g0, g1, g2, g3, g4, cur, g5⟩ := hd.new k hk
      exact ⟨g0, by rw [World.size_setCell]; exact g1, g2, g3, g4, cur, g5.fr hF (hK k hk)⟩, fun i K hi => by
      obtain ⟨A', c, r1, r2, r3⟩ := hd.row i K hi
      exact ⟨A', c, r1, r2.fr (by omega) hF fun k hk _ => hK k hk, r3⟩⟩
    new := h.new
    ap := h.ap }
end Go.Proofs.YtcpgamidimfflaaGreat
namespace Go.Proofs.YtcpgamidimfflaaGreat
open Go.RowKit Go.My Go.Maps
set_option linter.unusedSimpArgs false
set_option linter.unusedVariables false
attribute [local go_sem ↓] Go.wp_at_zero Go.wp_at_succ
set_option maxHeartbeats 8000000 in
theorem meet_any (B : Nat) (w : World) (q : Nat) (p : Wp) (n : Nat) (G : List (List Int)) (s : Ts) (x : Nat) (h : WkS B w q p n G s) (hx : x < n) (hn : n ≤ 1000) (hm : s.met ≤ 1000000) (hl : s.loose.length ≤ 1000000) :
    Calls Tryz.prog 230 #[.pointer (some ⟨q, 0, none⟩), .int .i64 (x : Int)] w fun e w' => e = .returned (.agg #[.int .i64 (x : Int), .int .i64 0]) ∧ WkN B w q n G (s.meet x) w' := by
  have HB := Lib.hid h.blk
  have k1 := h.blk.cell 1
  have k2 := h.blk.cell 2
  have k3 := h.blk.cell 3
  have k4 := h.blk.cell 4
  have k5 := h.blk.cell 5
  simp only [List.getElem?_toArray, List.getElem?_cons_zero, List.getElem?_cons_succ] at k1 k2 k3 k4 k5
  have z3 := h.blk.frozen 3
  have z4 := h.blk.frozen 4
  obtain ⟨o1, ⟨y1, c1⟩, d1⟩ := h.seen.store x hx (.int .i64 ((s.met + 1 : Nat) : Int))
  obtain ⟨o2, ⟨y2, c2⟩, d2⟩ := h.low.store x hx (.int .i64 ((s.met + 1 : Nat) : Int))
  obtain ⟨o3, ⟨y3, c3⟩, d3⟩ := h.mark.store x hx (.bool true)
  have l1 := h.blk.lt
  have l2 := h.seen.lt p.ps rfl
  have l3 := h.low.lt p.pl rfl
  have l4 := h.mark.lt p.pb rfl
  obtain ⟨cu1, bs1⟩ := blk_ps h
  obtain ⟨cu2, bs2⟩ := blk_pl h
  obtain ⟨cu3, bs3⟩ := blk_pb h
  have e1 : q ≠ p.ps := Blk.ne_ h.blk bs1 (by decide)
  have e2 : q ≠ p.pl := Blk.ne_ h.blk bs2 (by decide)
  have e3 : q ≠ p.pb := Blk.ne_ h.blk bs3 (by decide)
  have e4 : p.ps ≠ p.pl := h.ap.1
  have e5 : p.ps ≠ p.pb := Blk.ne_ bs1 bs3 (by decide)
  have e6 : p.pl ≠ p.pb := Blk.ne_ bs2 bs3 (by decide)
  clear bs1 bs2
  have H := Lib.hid h
  have hxn : (x : Int) < (n : Int) := by omega
  have hw : wrap64 ((s.met : Int) + 1) = ((s.met + 1 : Nat) : Int) := by unfold wrap64; omega
  clear h
  go_enter Tryz.func230, Tryz.ntmps230
  go_wp2
  go_region_law (fail)
  all_goals
    have hv : ((s.met + 1 : Nat) : Int) = (s.met : Int) + 1 := by omega
    have la1 : (Value.slice p.la s.loose.length p.lc).ownBlock ≠ some q := H.out.loose.ne_ H.out.blk (by decide)
    have la3 : (Value.slice p.la s.loose.length p.lc).ownBlock ≠ some p.pb := H.out.loose.ne_ bs3 (by decide)
    have HBQ := Lib.hid (((((H.out.blk.set_ 3 (.int .i64 ((s.met : Int) + 1))).far (p := ⟨p.ps, x, none⟩) e1 (.int .i64 ((s.met : Int) + 1))).far (p := ⟨p.pl, x, none⟩) e2 (.int .i64 ((s.met : Int) + 1))).alloc (.cells #[.int .i64 0, .int .i64 0] 292)).drew)
    have HLO := Lib.hid (((((H.out.loose.setCell (p := ⟨q, 3, none⟩) la1 (.int .i64 ((s.met : Int) + 1))).setCell (p := ⟨p.ps, x, none⟩) H.out.ap.2.1 (.int .i64 ((s.met : Int) + 1))).setCell (p := ⟨p.pl, x, none⟩) H.out.ap.2.2 (.int .i64 ((s.met : Int) + 1))).alloc (.cells #[.int .i64 0, .int .i64 0] 292)).drew)
    have HMK := Lib.hid (((((H.out.mark.setCell (p := ⟨q, 3, none⟩) (by intro e; injection e with e; exact e3 e.symm) (.int .i64 ((s.met : Int) + 1))).setCell (p := ⟨p.ps, x, none⟩) (by intro e; injection e with e; exact e5 e.symm) (.int .i64 ((s.met : Int) + 1))).setCell (p := ⟨p.pl, x, none⟩) (by intro e; injection e with e; exact e6 e.symm) (.int .i64 ((s.met : Int) + 1))).alloc (.cells #[.int .i64 0, .int .i64 0] 292)).drew)
    have hX : Hid (s.loose.length + 1 ≤ maxLen ∧ (s.loose.length + 1) * 8 ≤ 140737488355328) := by
      refine ⟨?_, ?_⟩ <;> (try simp only [maxLen]) <;> omega
    obtain ⟨W0, hW0⟩ : ∃ W0 : World, W0 = ((((w.setCell ⟨q, 3, none⟩ (.int .i64 ((s.met : Int) + 1))).setCell ⟨p.ps, x, none⟩ (.int .i64 ((s.met : Int) + 1))).setCell ⟨p.pl, x, none⟩ (.int .i64 ((s.met : Int) + 1))).alloc (.cells #[.int .i64 0, .int .i64 0] 292)).drew := ⟨_, rfl⟩
    have hS0 : W0.heap.size = w.heap.size + 1 := by
      rw [hW0]
      show (World.alloc _ _).heap.size = _
      rw [World.size_alloc, World.size_setCell, World.size_setCell, World.size_setCell]
    have HV0 : Hid (Blk W0 w.heap.size 292 #[.int .i64 0, .int .i64 0]) := Lib.hid (by
      rw [hW0]
      have := Blk.new (((w.setCell ⟨q, 3, none⟩ (.int .i64 ((s.met : Int) + 1))).setCell ⟨p.ps, x, none⟩ (.int .i64 ((s.met : Int) + 1))).setCell ⟨p.pl, x, none⟩ (.int .i64 ((s.met : Int) + 1))) 292 #[.int .i64 0, .int .i64 0]
      simp only [World.size_setCell] at this
      exact this)
    rw [← hW0]
    rw [← hW0] at HBQ
    rw [← hW0] at HLO
    rw [← hW0] at HMK
    have HW0 := Lib.hid hW0
    have j4 := HBQ.out.cell 4
    simp [Array.getElem?_setIfInBounds] at j4
    clear hW0 k1 k2 k3 k4 k5 z3 z4 o1 o2 o3 c1 c2 c3 d1 d2 d3
    go_wp2_with (at_builtin; refine wpList_app _ rfl (.tmp 36) (.tmp 38) 66 66 rfl elKI (HLO.out.alloc _) rfl (Src.of_new (cs := #[.int .i64 (x : Int)]) (t := 3) (w.heap.size + 1) (by rw [← hS0]; exact heap_alloc_new W0 _) Tryz.underlying66 rfl (by simp [Value.oneCell'])) rfl hX.out.1 hX.out.2 ?_; intro v1 w3 hown3 hfr3 hnew3; obtain ⟨A3, c3, rfl, _, _⟩ := hown3.form; have HB3 := Lib.hid ((HBQ.out.alloc (.cells #[.int .i64 (x : Int)] 3)).fr hfr3 la1); have i4 := HB3.out.frozen 4; have i5 := HB3.out.cell 5; have i40 := HB3.out.cell 4; simp [Array.getElem?_setIfInBounds] at i5 i40; have HM3 := Lib.hid ((HMK.out.alloc (.cells #[.int .i64 (x : Int)] 3)).fr hfr3 (fun i hi e => la3 (by injection hi with hi; subst hi; exact e))); obtain ⟨g1, ⟨yb, g2⟩, g3⟩ := HM3.out.store x hx (.bool true); have HV3 := Lib.hid ((HV0.out.alloc (.cells #[.int .i64 (x : Int)] 3)).fr hfr3 (fun e => HLO.out.ne_ HV0.out (by decide) e)); have n0 := HV3.out.cell 0; have n1 := HV3.out.cell 1; have m0 := HV3.out.frozen 0; have m1 := HV3.out.frozen 1; simp only [List.getElem?_toArray, List.getElem?_cons_zero, List.getElem?_cons_succ] at n0 n1; have b1 := HB3.out.lt; have b2 := HM3.out.lt p.pb rfl; have b3 := HV3.out.lt; have HG1 := Lib.hid g1; have HO3 := Lib.hid hown3; have HF3 := Lib.hid hfr3; have HN3 := Lib.hid hnew3; clear g1 hown3 hfr3 hnew3)
    refine bodyPost_ret (v := .agg #[.int .i64 (x : Int), .int .i64 0]) (by simp [results, Tryz.results230, go_sem, n0, n1]) rfl ?_
    exact ⟨rfl, meet_mem H.out hx HW0.out HO3.out HF3.out HN3.out⟩
end Go.Proofs.YtcpgamidimfflaaGreat
namespace Go.Proofs.YtcpgamidimfflaaGreat
open Go.RowKit Go.My Go.Maps
set_option linter.unusedSimpArgs false
set_option linter.unusedVariables false
attribute [local go_sem ↓] Go.wp_at_zero Go.wp_at_succ
def TieM (w3 : World) (s : Ts) (p : Wp) (n : Nat) (Z : List Nat) (iv : Value) (wr : World) : Prop := ∃ j : Nat, j ≤ Z.length ∧ iv = .int .i64 j ∧ Own wr 4 1 (.slice (some ⟨p.pb, 0, none⟩) n n) n (bl (offB s Z j) n) ∧ Fr (At1 p.pb) w3 wr
def TieRel (w : World) (a n : Nat) (iv : Value) (wr : World) : Prop := ∃ i : Nat, a ≤ i ∧ i < n ∧ iv = .int .i64 i ∧ w = wr
set_option maxRecDepth 100000 in
set_option maxHeartbeats 40000000 in
theorem tie_any (B : Nat) (w : World) (q : Nat) (p : Wp) (n : Nat) (G : List (List Int)) (s : Ts) (A Z : List Nat) (v : Nat) (h : WkS B w q p n G s) (hl : s.loose = A ++ v :: Z) (hv : v ∉ Z) (hnd : s.loose.Nodup) (hr : ∀ x ∈ v :: Z, x < n) (hn : n ≤ 1000) (hll : s.loose.length ≤ 1000) (hf : s.found.length ≤ 1000) :
    Calls Tryz.prog 231 #[.pointer (some ⟨q, 0, none⟩), .int .i64 (v : Int)] w fun e w' => e = .returned (.tuple #[]) ∧ ∃ K : List Nat, K.Pairwise (· < ·) ∧ (∀ x, x ∈ K ↔ x ∈ v :: Z) ∧ WkN B w q n G (s.tie A K) w' := by
  have k4 := h.blk.cell 4
  have k5 := h.blk.cell 5
  have k6 := h.blk.cell 6
  simp only [List.getElem?_toArray, List.getElem?_cons_zero, List.getElem?_cons_succ] at k4 k5 k6
  have z4 := h.blk.frozen 4
  have hlen : s.loose.length = A.length + 1 + Z.length := by rw [hl]; simp; omega
  have hrd := h.loose.rd
  have H := Lib.hid h
  have HR := Lib.hid hrd
  have hat : ∀ i, A.length ≤ i → i < s.loose.length → (i = A.length → s.loose[i]? = some v) ∧ (i ≠ A.length → ∃ y, s.loose[i]? = some y ∧ y ≠ v) := by
    intro i h1 h2
    rw [hl, List.getElem?_append_right h1]
    refine ⟨fun e => by subst e; simp, fun e => ?_⟩
    rw [show i - A.length = (i - A.length - 1) + 1 by omega, List.getElem?_cons_succ]
    have h3 : i - A.length - 1 < Z.length := by omega
    exact ⟨Z[i - A.length - 1], List.getElem?_eq_getElem h3, fun e2 => hv (by rw [← e2]; exact List.getElem_mem h3)⟩
  have HAT := Lib.hid hat
  have hw1 : wrap64 ((s.loose.length : Int) - 1) = ((s.loose.length - 1 : Nat) : Int) := by unfold wrap64; omega
  obtain ⟨la0, lc0, hlf, hlc, hcm⟩ := h.loose.form
  injection hlf with _ _ hlf
  subst hlf
  have HL := Lib.hid hl
  have HLEN := Lib.hid hlen
  have HV := Lib.hid hv
  have HND := Lib.hid hnd
  clear h hrd hat hl hlen hv hnd
  go_enter Tryz.func231, Tryz.ntmps231
  go_wp2
  go_loopw [4] (fun iv wr => TieRel w A.length s.loose.length iv wr) (fun iv _ => (intOf iv).toNat)
  case atStart => exact ⟨s.loose.length - 1, by have := HLEN.out; omega, by have := HLEN.out; omega, by rw [show ((s.loose.length - 1 : Nat) : Int) = (s.loose.length : Int) - 1 by have := HLEN.out; omega], rfl⟩
  case round =>
    obtain ⟨i, hi1, hi2, rfl, rfl⟩ := hrel
    obtain ⟨ad, e1, e2, e3⟩ := HR.out.2 (by have := HLEN.out; omega)
    by_cases hia : i = A.length
    · subst hia
      have hvv := (HAT.out A.length hi1 hi2).1 rfl
      have hc := e3 A.length (.int .i64 (v : Int)) (by rw [nl, List.getElem?_map, hvv]; rfl)
      have k4' := k4
      rw [e1] at k4
      have g1 : (A.length : Int) ≤ (s.loose.length : Int) := by omega
      have g2 : (s.loose.length : Int) ≤ (p.lc : Int) := by omega
      have hZl : (((v :: Z).map fun (x : Nat) => (x : Int))).length = s.loose.length - A.length := by rw [List.length_map, List.length_cons]; have := HLEN.out; omega
      have HCL : Hid (Calls Tryz.prog 165 #[.slice (some (ad.add A.length)) (s.loose.length - A.length) (p.lc - A.length)] w (RetOwn w 3 1 none (s.loose.length - A.length) (is_ ((v :: Z).map fun (x : Nat) => (x : Int))))) := Lib.hid (by
        have hcut := HR.out.cut (k := A.length) (by omega) hlc
        rw [if_neg (by omega), e1, Nat.mul_one] at hcut
        have hd : (nl s.loose).drop A.length = is_ ((v :: Z).map fun (x : Nat) => (x : Int)) := by
          rw [← nl_is, nl, ← List.map_drop, HL.out, List.drop_left]; rfl
        rw [hd] at hcut
        have := cloneI_any _ (some (ad.add A.length)) (p.lc - A.length) _ w (by rw [hZl]; exact hcut) (by rw [hZl]; omega)
        rw [hZl] at this
        exact this)
      generalize hzz : ((v :: Z).map fun (x : Nat) => (x : Int)) = zl at *
      go_wp2_with fail
      refine HCL.out.mono ?_
      rintro e w2 ⟨kv, rfl, hok, hfk0, hnk⟩
      have hfk := fr_at_none hfk0
      have hm0 : 0 < s.loose.length - A.length := by omega
      obtain ⟨kg, kc, kcur, rfl, hkb, hkc, hkm, _, _⟩ := hok.formPos hm0
      have hkn : w.heap.size ≤ kg := by
        rcases hnk with e | ⟨k, e, hk⟩
        · cases e
        · have e : some kg = some k := e
          injection e with e; omega
      have hb2 := H.out.blk.fr hfk (fun h => h)
      have y4 := hb2.cell 4
      simp only [List.getElem?_toArray, List.getElem?_cons_zero, List.getElem?_cons_succ, e1] at y4
      have yz := hb2.frozen 4
      have HB3 := Lib.hid (hb2.set_ 4 (.slice p.la A.length p.lc))
      obtain ⟨cu3, bs3⟩ := blk_pb H.out
      have e3' : q ≠ p.pb := Blk.ne_ H.out.blk bs3 (by decide)
      have hmk := (H.out.mark.fr hfk (fun _ _ h => h)).setCell (p := ⟨q, 4, none⟩) (by intro e; injection e with e; exact e3' e.symm) (.slice p.la A.length p.lc)
      have hok3 := hok.setCell (p := ⟨q, 4, none⟩) (by intro e; have e : some kg = some q := e; injection e with e; have := H.out.blk.lt; omega) (.slice p.la A.length p.lc)
      have HMK := Lib.hid hmk
      have HOK := Lib.hid hok3
      have HFK := Lib.hid hfk
      have g4 : (A.length : Int) ≤ (p.lc : Int) := by omega
      rw [e1] at HB3 HMK HOK
      clear hmk hok hok3 hfk hfk0 hb2 hnk
      go_wp2
      clear HR HAT HCL hvv hc k4' e2 e3 hi1 hi2 hw1 g1 g2 HLEN
      have hYn : 0 < (v :: Z).length := by rw [List.length_cons]; omega
      have hmY : s.loose.length - A.length = (v :: Z).length := by rw [HL.out, List.length_append]; omega
      generalize hYY : v :: Z = Y at *
      have HYY := Lib.hid hYY
      clear hYY
      have hmb : s.loose.length - A.length ≤ 1000 := by omega
      generalize s.loose.length - A.length = m at *
      have HZZ := Lib.hid hzz
      have HZL := Lib.hid hZl
      have HRG := Lib.hid hr
      have HMY := Lib.hid hmY
      have HYN := Lib.hid hYn
      clear hzz hZl hr hmY hYn
      go_loopw [7, 43] (fun xv iv wr => TieM (w2.setCell ⟨q, 4, none⟩ (.slice (some ad) A.length p.lc)) s p n Y iv wr) (fun _ iv _ => m - (intOf iv).toNat)
      case atStart => exact ⟨0, Nat.zero_le _, rfl, by rw [offB_zero]; exact HMK.out, Fr.refl _ _⟩
      case round =>
        obtain ⟨j, hj, rfl, hmj, hfj⟩ := hrel
        have hokj := HOK.out.fr hfj (fun k hk e => by
          have e : k = p.pb := e
          subst e
          exact HOK.out.ne_ (HMK.out.blk p.pb rfl).choose_spec (by decide) hk)
        have hbj := HB3.out.fr hfj (fun e => e3' e)
        have i5 := hbj.cell 5
        have i6 := hbj.cell 6
        have z6 := hbj.frozen 6
        simp [Array.getElem?_setIfInBounds] at i5 i6
        have HJ := Lib.hid hj
        clear hj
        by_cases hjm : j < m
        · have hjm2 : j < Y.length := by have := HMY.out; omega
          have hx : Y[j] < n := HRG.out _ (List.getElem_mem hjm2)
          have hcx : wr.cell? ⟨kg, j, none⟩ = some (.int .i64 (Y[j] : Int)) := by
            obtain ⟨ad2, e5, _, hce⟩ := hokj.rd.2 hm0
            injection e5 with e5
            subst e5
            have := hce j (.int .i64 (Y[j] : Int)) (by rw [← HZZ.out, ← nl_is]; exact nl_at _ _ hjm2)
            rwa [add_zero] at this
          obtain ⟨n1, ⟨yb, n2⟩, n3⟩ := hmj.store _ hx (.bool false)
          have HE : Hid (bl (upN (offB s Y j) Y[j] false) n = bl (offB s Y (j + 1)) n) := Lib.hid (offB_step s Y j n hjm2)
          rw [bl_set _ _ _ _ hx] at n1
          have HN1 := Lib.hid n1
          have g5 : (j : Int) < (m : Int) := by omega
          have g6 : (Y[j] : Int) < (n : Int) := by omega
          generalize Y[j] = x at *
          clear n1 hokj hbj hmj hjm2 i6 z6
          go_wp2
          go_roundw
          case rel => exact ⟨j + 1, by have := HMY.out; omega, by go_num, by rw [← HE.out]; exact HN1.out, hfj.trans (fr_set _ _ _ _)⟩
          case measure => simp [intOf]; omega
        · have HJM : Hid (j = Y.length) := Lib.hid (by have := HJ.out; have := HMY.out; omega)
          have g5 : ¬ (j : Int) < (m : Int) := by omega
          have HS : Hid (Calls Tryz.prog 166 #[.slice (some ⟨kg, 0, none⟩) (m) kc] wr fun e w' => e = .returned (.tuple #[]) ∧ Own w' 3 1 (.slice (some ⟨kg, 0, none⟩) (m) kc) (m) (is_ (sortI zl)) ∧ Fr (At1 kg) wr w') := Lib.hid (by
            have := sortI_any zl kg kc wr (by rw [HZL.out]; exact hokj) (by rw [HZL.out]; omega)
            rw [HZL.out] at this
            exact this)
          have HBJ := Lib.hid hbj
          have HMJ := Lib.hid hmj
          have HOKJ := Lib.hid hokj
          clear hokj hbj hmj i5 i6 z6
          go_wp2_with fail
          refine HS.out.mono ?_
          rintro e w5 ⟨rfl, ho5, hf5⟩
          obtain ⟨vs, KB, hfd⟩ := H.out.found
          have fa1 : (Value.slice p.fa s.found.length p.fc).ownBlock ≠ some q := hfd.out.ne_ H.out.blk (by decide)
          have fa2 : (Value.slice p.fa s.found.length p.fc).ownBlock ≠ some p.pb := hfd.out.ne_ bs3 (by decide)
          have hqk : q ≠ kg := by have := H.out.blk.lt; omega
          have HB5 := Lib.hid (HBJ.out.fr hf5 hqk)
          have i6 := HB5.out.cell 6
          have z6 := HB5.out.frozen 6
          simp [Array.getElem?_setIfInBounds] at i6
          have HFA := Lib.hid ((((hfd.out.fr HFK.out (fun _ _ h => h)).setCell (p := ⟨q, 4, none⟩) fa1 (.slice (some ad) A.length p.lc)).fr hfj fun k hk hS => fa2 (by have hS : k = p.pb := hS; subst hS; exact hk)).fr hf5 fun k hk hS => by
            have hS : k = kg := hS
            have := hfd.out.lt k hk
            omega)
          have HFD := Lib.hid hfd
          have HO5 := Lib.hid ho5
          have HF5 := Lib.hid hf5
          have HFJ := Lib.hid hfj
          have hq5 : q < w5.heap.size := HB5.out.lt
          have hX : Hid (s.found.length + 1 ≤ maxLen ∧ (s.found.length + 1) * 24 ≤ 140737488355328) := by
            refine ⟨?_, ?_⟩ <;> (try simp only [maxLen]) <;> omega
          clear hfd ho5 hf5 hfj HS
          go_wp2_with (at_builtin; refine wpList_app _ rfl (.tmp 60) (.tmp 62) 107 107 rfl elG (HFA.out.alloc _) rfl (Src.of_new (cs := #[.slice (some ⟨kg, 0, none⟩) (m) kc]) (t := 66) w5.heap.size (heap_alloc_new w5 _) Tryz.underlying107 rfl (by simp [Value.oneCell'])) rfl hX.out.1 hX.out.2 ?_; intro v1 w7 hown7 hfr7 hnew7; obtain ⟨A7, c7, rfl, _, _⟩ := hown7.form; have HB7 := Lib.hid ((HB5.out.alloc (.cells #[.slice (some ⟨kg, 0, none⟩) (m) kc] 66)).fr hfr7 fa1); have i7 := HB7.out.cell 6; have z7 := HB7.out.frozen 6; simp [Array.getElem?_setIfInBounds] at i7; have HO7 := Lib.hid hown7; have HF7 := Lib.hid hfr7; have HN7 := Lib.hid hnew7; clear hown7 hfr7 hnew7)
          refine bodyPost_end (v := .tuple #[]) (by simp [results, Tryz.results231, go_sem]) rfl ?_
          have hnd := HND.out
          rw [HL.out] at hnd
          obtain ⟨_, hn2, hn3⟩ := List.nodup_append.1 hnd
          refine ⟨rfl, knOf Y, knOf_up Y hn2, fun x => by rw [← List.mem_cons, HYY.out]; exact knOf_mem Y x, ?_⟩
          have hjY := HMY.out
          subst hjY
          have hzY := HZZ.out
          subst hzY
          have hmj := HMJ.out
          rw [HJM.out] at hmj
          exact tie_mem H.out HL.out (fun x h1 h2 => hn3 x h1 x h2 rfl) HYN.out hn HFD.out HFK.out (by rw [e1]) hkn hmj HFJ.out HO5.out HF5.out HO7.out HF7.out HN7.out
    · obtain ⟨y, hy1, hy2⟩ := (HAT.out i hi1 hi2).2 hia
      have hc := e3 i (.int .i64 (y : Int)) (by rw [nl, List.getElem?_map, hy1]; rfl)
      have hb : ((y : Int) != (v : Int)) = true := by rw [bne_iff_ne]; omega
      rw [e1] at k4
      go_wp2
      exact ⟨⟨i - 1, by omega, by omega, by rw [show ((i - 1 : Nat) : Int) = (i : Int) - 1 by omega], rfl⟩, by simp [intOf]; omega⟩
end Go.Proofs.YtcpgamidimfflaaGreat
namespace Go.Proofs.YtcpgamidimfflaaGreat
open Go.RowKit Go.My Go.Maps
set_option linter.unusedSimpArgs false
set_option linter.unusedVariables false
theorem nodup_leN {l : List Nat} {n : Nat} (hd : l.Nodup) (hr : ∀ x ∈ l, x < n) : l.length ≤ n := by
  have h := nodup_le (l := l.map fun (x : Nat) => (x : Int)) (n := n) (List.pairwise_map.2 (hd.imp fun h e => h (by exact_mod_cast e))) (fun x hx => by
    obtain ⟨y, hy, rfl⟩ := List.mem_map.1 hx
    have := hr y hy
    omega)
  rwa [List.length_map] at h
section
variable {n : Nat} {G : Nat → List Nat} {s : Ts} {P : List (Nat × Nat)}
theorem TI.loose_le (h : TI n G s P) : s.loose.length ≤ n := nodup_leN h.nodup fun x hx => h.rng x (h.lseen x hx)
theorem flat_le : ∀ l : List (List Nat), (∀ K ∈ l, K ≠ []) → l.length ≤ l.flatten.length
  | [], _ => Nat.le_refl _
  | K :: l, h => by
    have h1 := flat_le l fun K hK => h K (List.mem_cons_of_mem _ hK)
    have h2 : 0 < K.length := List.length_pos_iff.2 (h K List.mem_cons_self)
    rw [List.flatten_cons, List.length_append, List.length_cons]
    omega
theorem TI.found_le (h : TI n G s P) : s.found.length ≤ n := by
  refine Nat.le_trans (flat_le _ fun K hK => (h.fd K hK).ne) (nodup_leN h.fnd fun x hx => ?_)
  obtain ⟨K, hK, hx⟩ := List.mem_flatten.1 hx
  exact h.rng x ((h.fmem x).2 ⟨K, hK, hx⟩).1
theorem TI.path_le (h : TI n G s P) : P.length ≤ n := by
  have := nodup_leN (l := P.map Prod.fst) (n := n) (List.pairwise_map.2 (h.pd.imp fun h e => by rw [e] at h; exact Nat.lt_irrefl _ h)) (fun x hx => by
    obtain ⟨⟨v, k⟩, hm, rfl⟩ := List.mem_map.1 hx
    exact h.rng v (h.lseen v (h.pl v k hm)))
  rwa [List.length_map] at this
end
def gm (G : List (List Int)) (v : Nat) : List Nat := (gat G v).map Int.toNat
theorem gm_len (G : List (List Int)) (v : Nat) : (gm G v).length = (gat G v).length := by rw [gm, List.length_map]
theorem gm_at {G : List (List Int)} (hP : PlK G) (v k : Nat) (h : k < (gm G v).length) : (gat G v)[k]? = some ((gm G v)[k] : Int) ∧ (gm G v)[k] < G.length := by
  have h2 : k < (gat G v).length := by rw [← gm_len]; exact h
  have h3 := hP v _ (List.getElem_mem h2)
  have e : (gm G v)[k] = ((gat G v)[k]).toNat := List.getElem_map (l := gat G v) Int.toNat
  rw [e, List.getElem?_eq_getElem h2]
  exact ⟨by congr 1; omega, by omega⟩
theorem gm_lt {G : List (List Int)} (hP : PlK G) (v : Nat) : ∀ y ∈ gm G v, y < G.length := fun y hy => by
  obtain ⟨x, hx, rfl⟩ := List.mem_map.1 hy
  have := hP v x hx
  omega
structure OnW (B : Nat) (w0 : World) (q n : Nat) (G : List (List Int)) (s0 : Ts) (x : Nat) (s : Ts) (P : List (Nat × Nat)) (p : Wp) (pa : Option Addr) (pc : Nat) (w : World) : Prop where
  way : PaM B w pa pc P
  mem : WkS B w q p n G s
  ti : TI n (gm G) s P
  cnt : s.met + uns s n = n
  old : ∀ y, s0.seen y ≠ 0 → s.seen y ≠ 0
  fst : s.seen x ≠ 0
  fr : Fr (fun k => B ≤ k) w0 w
def FrO (B : Nat) (w0 : World) (q n : Nat) (G : List (List Int)) (s0 : Ts) (x : Nat) (k : Nat) (iv : Value) (w : World) : Prop :=
  ∃ s P p pa pc, iv = .slice pa P.length pc ∧ OnW B w0 q n G s0 x s P p pa pc w ∧ k = 2 * uns s n + P.length
def FrI (B : Nat) (w0 : World) (q n : Nat) (G : List (List Int)) (s0 : Ts) (x : Nat) (v : Nat) (R : List (Nat × Nat)) (g pc U : Nat) (k : Nat) (iv : Value) (w : World) : Prop :=
  ∃ s p j, iv = .slice (some ⟨g, 0, none⟩) (R.length + 1) pc ∧ OnW B w0 q n G s0 x s ((v, j) :: R) p (some ⟨g, 0, none⟩) pc w ∧ uns s n = U ∧ k = (gm G v).length - j
theorem WkS.over {B : Nat} {w w' : World} {q : Nat} {p : Wp} {n : Nat} {G : List (List Int)} {s : Ts} (h : WkS B w q p n G s) (hf : Fr No w w') : WkS B w' q p n G s := by
  obtain ⟨vs, KB, hd⟩ := h.found
  exact {
    blk := h.blk.fr hf (fun h => h)
    g := h.g.fr hf fun _ _ _ h => h
    gl := h.gl
    seen := h.seen.fr hf fun _ _ h => h
    low := h.low.fr hf fun _ _ h => h
    mark := h.mark.fr hf fun _ _ h => h
    loose := h.loose.fr hf fun _ _ h => h
    found := ⟨vs, KB, hd.out.fr hf (fun _ _ h => h), fun k hk => by
      obtain ⟨g0, g1, g2, g3, g4, cur, g5⟩ := hd.new k hk
      exact ⟨g0, Nat.lt_of_lt_of_le g1 hf.size, g2, g3, g4, cur, g5.fr hf (fun h => h)⟩, fun i K hi => by
      obtain ⟨A', c, r1, r2, r3⟩ := hd.row i K hi
      exact ⟨A', c, r1, r2.fr (by omega) hf fun _ _ _ h => h, r3⟩⟩
    new := h.new
    ap := h.ap }
theorem OnW.over {B : Nat} {w0 w w' : World} {q n : Nat} {G : List (List Int)} {s0 s : Ts} {x : Nat} {P : List (Nat × Nat)} {p : Wp} {pa : Option Addr} {pc : Nat} (h : OnW B w0 q n G s0 x s P p pa pc w) (hf : Fr No w w') : OnW B w0 q n G s0 x s P p pa pc w' :=
  ⟨h.way.fr (hf.mono fun _ _ h => nomatch h), h.mem.over hf, h.ti, h.cnt, h.old, h.fst, h.fr.trans' hf fun _ h => nomatch h⟩
theorem WkS.far {B : Nat} {w w' : World} {q : Nat} {p : Wp} {n : Nat} {G : List (List Int)} {s : Ts} {S : Nat → Prop} (h : WkS B w q p n G s) (hf : Fr S w w') (hS : ∀ k, S k → k < w.heap.size → B ≤ k ∧ ∃ cv, Blk w k 292 cv) : WkS B w' q p n G s := by
  obtain ⟨vs, KB, hd⟩ := h.found
  have key : ∀ {t : TypeId} {m : Nat} {v : Value} {xs : List Value}, t ≠ 292 → Own w t 1 v m xs → Own w' t 1 v m xs := fun ht ho => ho.fr hf fun k hk hk2 => by
    obtain ⟨_, cv, hv⟩ := hS k hk2 (ho.lt k hk)
    exact ho.ne_ hv ht hk
  have hK : ∀ k, KB k → ¬ S k := fun k hk hk2 => by
    obtain ⟨_, g1, _, _, _, cur, h5⟩ := hd.new k hk
    obtain ⟨_, cv, hv⟩ := hS k hk2 g1
    exact Blk.ne_ hv h5 (by decide) rfl
  exact {
    blk := h.blk.fr hf fun hq => by
      obtain ⟨_, cv, hv⟩ := hS q hq h.blk.lt
      exact Blk.ne_ h.blk hv (by decide) rfl
    g := h.g.fr hf fun k hk hlt hk2 => by have := (hS k hk2 hlt).1; omega
    gl := h.gl
    seen := key (by decide) h.seen
    low := key (by decide) h.low
    mark := key (by decide) h.mark
    loose := key (by decide) h.loose
    found := ⟨vs, KB, key (by decide) hd.out, fun k hk => by
      obtain ⟨g0, g1, g2, g3, g4, cur, g5⟩ := hd.new k hk
      exact ⟨g0, Nat.lt_of_lt_of_le g1 hf.size, g2, g3, g4, cur, g5.fr hf (hK k hk)⟩, fun i K hi => by
      obtain ⟨A', c, r1, r2, r3⟩ := hd.row i K hi
      exact ⟨A', c, r1, r2.fr (by omega) hf fun k hk _ => hK k hk, r3⟩⟩
    new := h.new
    ap := h.ap }
theorem push_mem {B : Nat} {w0 w w7 : World} {q n : Nat} {G : List (List Int)} {s : Ts} {P : List (Nat × Nat)} {p : Wp} {pa A7 : Option Addr} {pc c7 y : Nat} {ob : Obj} (hp : PaM B w pa pc P) (hs : WkS B w q p n G s) (hF : Fr (fun k => B ≤ k) w0 w) (hB : B ≤ w.heap.size)
    (ho : Own w7 292 2 (.slice A7 (P.length + 1) c7) (P.length + 1) (pv P ++ [.int .i64 (y : Int), .int .i64 0])) (hf : Fr (AtO (Value.slice pa P.length pc).ownBlock) (w.alloc ob) w7)
    (hn : (Value.slice A7 (P.length + 1) c7).ownBlock = (Value.slice pa P.length pc).ownBlock ∨ (Value.slice A7 (P.length + 1) c7).ownBlock = some (w.alloc ob).heap.size) :
    PaM B w7 A7 c7 ((y, 0) :: P) ∧ WkS B w7 q p n G s ∧ Fr (fun k => B ≤ k) w0 w7 := by
  have hf1 : Fr (AtO (Value.slice pa P.length pc).ownBlock) w w7 := ((Fr.refl _ w).alloc ob).trans' hf fun _ h _ => h
  refine ⟨⟨ho, fun k hk => ?_⟩, hs.far hf1 fun k hk _ => ⟨hp.2 k hk, hp.1.blk k hk⟩, hF.trans' hf1 fun k hk _ => hp.2 k hk⟩
  have hk : (Value.slice A7 (P.length + 1) c7).ownBlock = some k := hk
  rcases hn with e | e
  · exact hp.2 k (e ▸ hk)
  · rw [e, World.size_alloc] at hk; injection hk with hk; omega
theorem OnW.bump {B : Nat} {w0 w : World} {q n : Nat} {G : List (List Int)} {s0 s : Ts} {x v k : Nat} {R : List (Nat × Nat)} {p : Wp} {g pc : Nat} (h : OnW B w0 q n G s0 x s ((v, k) :: R) p (some ⟨g, 0, none⟩) pc w) :
    PaM B (w.setCell ⟨g, R.length * 2 + 1, none⟩ (.int .i64 ((k + 1 : Nat) : Int))) (some ⟨g, 0, none⟩) pc ((v, k + 1) :: R) ∧ WkS B (w.setCell ⟨g, R.length * 2 + 1, none⟩ (.int .i64 ((k + 1 : Nat) : Int))) q p n G s ∧ Fr (fun k => B ≤ k) w0 (w.setCell ⟨g, R.length * 2 + 1, none⟩ (.int .i64 ((k + 1 : Nat) : Int))) := by
  obtain ⟨g', hge, k1, k2, ⟨cv, k3⟩, k4, k5, k6, k7⟩ := h.way.last
  obtain rfl : g = g' := by injection hge with e; injection e
  exact ⟨k7, h.mem.way k3 k1 _, h.fr.trans' (fr_set _ _ _ _) fun i hi _ => by have hi : i = g := hi; omega⟩
end Go.Proofs.YtcpgamidimfflaaGreat
