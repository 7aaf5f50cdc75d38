/- The walk depth first: what memory holds when a place is met. -/
import Derived.Test.YtcjofakhefpfdaaKnW
namespace Go.Proofs.Ytcjofakhefpfdaa
open Go.RowKit Go.My Go.Maps
set_option linter.unusedSimpArgs false
set_option linter.unusedVariables false

/-- the walk's blocks that a step changes -/
def WkT (q : Nat) (p : Wp) (s : Ts) (k : Nat) : Prop := k = q ∨ k = p.ps ∨ k = p.pl ∨ k = p.pb ∨ (Value.slice p.la s.loose.length p.lc).ownBlock = some k
section
variable {B : Nat} {w w' : World} {q : Nat} {p : Wp} {n : Nat} {G : List (List Int)} {s : Ts}
theorem WkS.la_blk (h : WkS B w q p n G s) {k : Nat} (hk : (Value.slice p.la s.loose.length p.lc).ownBlock = some k) : ∃ cur, Blk w k 3 cur := h.loose.blk k hk
theorem WkS.wkc (h : WkS B w q p n G s) {k : Nat} (hk : WkT q p s k) : WkC B w k := by
  rcases hk with rfl | rfl | rfl | rfl | hk
  · exact wkc_of h.new.1 h.blk (by decide)
  · obtain ⟨c, hc⟩ := blk_ps h; exact wkc_of h.new.2.1 hc (by decide)
  · obtain ⟨c, hc⟩ := blk_pl h; exact wkc_of h.new.2.2.1 hc (by decide)
  · obtain ⟨c, hc⟩ := blk_pb h; exact wkc_of h.new.2.2.2.1 hc (by decide)
  · obtain ⟨c, hc⟩ := h.la_blk hk; exact wkc_of (h.new.2.2.2.2.1 k hk) hc (by decide)
/-- what is read of the graph stays -/
theorem WkS.gfr (h : WkS B w q p n G s) (hf : Fr (WkT q p s) w w') : RdG w' (fun k => k < B) p.ga G := h.g.fr hf fun k hk _ hS => by
  have := (h.wkc hS).1; omega
/-- what was found stays -/
theorem WkS.ffr (h : WkS B w q p n G s) (hf : Fr (WkT q p s) w w') {vs : List Value} {KB : Nat → Prop} (hd : FdS B w p s vs KB) :
    Own w' 26 1 (.slice p.fa s.found.length p.fc) s.found.length vs ∧ (∀ k, KB k → k < w'.heap.size ∧ ∃ cur, Blk w' k 3 cur) ∧
      ∀ (i : Nat) (K : List Nat), s.found[i]? = some K → ∃ A c, vs[i]? = some (.slice A K.length c) ∧ Rd w' KB 1 A K.length (nl K) ∧ K.length ≤ c ∧ c ≤ maxLen := by
  have hK : ∀ k, KB k → ¬ WkT q p s k := by
    intro k hk hS
    obtain ⟨_, _, h2, h3, h4, cur, h5⟩ := hd.new k hk
    rcases hS with rfl | rfl | rfl | rfl | e
    · exact Blk.ne_ h.blk h5 (by decide) rfl
    · exact h2 rfl
    · exact h3 rfl
    · obtain ⟨c, hc⟩ := blk_pb h; exact Blk.ne_ hc h5 (by decide) rfl
    · exact h4 e
  refine ⟨hd.out.fr hf fun k hk hS => ?_, fun k hk => ?_, fun i K hi => ?_⟩
  · obtain ⟨cur, hc⟩ := hd.out.blk k hk
    rcases hS with rfl | rfl | rfl | rfl | e
    · exact Blk.ne_ h.blk hc (by decide) rfl
    · obtain ⟨c, hc2⟩ := blk_ps h; exact Blk.ne_ hc2 hc (by decide) rfl
    · obtain ⟨c, hc2⟩ := blk_pl h; exact Blk.ne_ hc2 hc (by decide) rfl
    · obtain ⟨c, hc2⟩ := blk_pb h; exact Blk.ne_ hc2 hc (by decide) rfl
    · obtain ⟨c, hc2⟩ := h.la_blk e; exact Blk.ne_ hc2 hc (by decide) rfl
  · obtain ⟨_, h1, _, _, _, cur, h5⟩ := hd.new k hk
    exact ⟨Nat.lt_of_lt_of_le h1 hf.size, cur, h5.fr hf (hK k hk)⟩
  · obtain ⟨A, c, h1, h2, h3⟩ := hd.row i K hi
    exact ⟨A, c, h1, h2.fr (by omega) hf fun k hk _ => hK k hk, h3⟩
end

/-- what a walk's step hands on -/
def WkN (B : Nat) (w : World) (q n : Nat) (G : List (List Int)) (s : Ts) (w' : World) : Prop := ∃ p, WkS B w' q p n G s ∧ Fr (WkC B w) w w'

theorem meet_mem {B : Nat} {w : World} {q : Nat} {p : Wp} {n : Nat} {G : List (List Int)} {s : Ts} {x : Nat} (h : WkS B w q p n G s) (hx : x < n) {W0 w3 : World} {ob : Obj} {A3 : Option Addr} {c3 : Nat}
    (hW0 : W0 = ((((w.setCell ⟨q, 3, none⟩ (.int .i64 ((s.met : Int) + 1))).setCell ⟨p.ps, x, none⟩ (.int .i64 ((s.met : Int) + 1))).setCell ⟨p.pl, x, none⟩ (.int .i64 ((s.met : Int) + 1))).alloc (.cells #[.int .i64 0, .int .i64 0] 59)).drew)
    (ho3 : Own w3 3 1 (.slice A3 (s.loose.length + 1) c3) (s.loose.length + 1) (nl s.loose ++ [.int .i64 (x : Int)]))
    (hf3 : Fr (AtO (Value.slice p.la s.loose.length p.lc).ownBlock) (W0.alloc ob) w3)
    (hn3 : (Value.slice A3 (s.loose.length + 1) c3).ownBlock = (Value.slice p.la s.loose.length p.lc).ownBlock ∨ (Value.slice A3 (s.loose.length + 1) c3).ownBlock = some (W0.alloc ob).heap.size) :
    WkN B w q n G (s.meet x) ((((w3.setCell ⟨q, 4, none⟩ (.slice A3 (s.loose.length + 1) c3)).setCell ⟨p.pb, x, none⟩ (.bool true)).setCell ⟨w.heap.size, 0, none⟩ (.int .i64 (x : Int))).setCell ⟨w.heap.size, 1, none⟩ (.int .i64 0)) := by
  obtain ⟨cu1, bs1⟩ := blk_ps h
  obtain ⟨cu2, bs2⟩ := blk_pl h
  obtain ⟨cu3, bs3⟩ := blk_pb h
  have e1 : q ≠ p.ps := Blk.ne_ h.blk bs1 (by decide)
  have e2 : q ≠ p.pl := Blk.ne_ h.blk bs2 (by decide)
  have e3 : q ≠ p.pb := Blk.ne_ h.blk bs3 (by decide)
  have e4 : p.ps ≠ p.pl := h.ap.1
  have e5 : p.ps ≠ p.pb := Blk.ne_ bs1 bs3 (by decide)
  have e6 : p.pl ≠ p.pb := Blk.ne_ bs2 bs3 (by decide)
  have l0 := h.blk.lt
  have l1 := bs1.lt
  have l2 := bs2.lt
  have l3 := bs3.lt
  have la1 : (Value.slice p.la s.loose.length p.lc).ownBlock ≠ some q := h.loose.ne_ h.blk (by decide)
  have la3 : (Value.slice p.la s.loose.length p.lc).ownBlock ≠ some p.pb := h.loose.ne_ bs3 (by decide)
  have hS0 : W0.heap.size = w.heap.size + 1 := by
    rw [hW0]
    show (World.alloc _ _).heap.size = _
    rw [World.size_alloc, World.size_setCell, World.size_setCell, World.size_setCell]
  have hS1 : (W0.alloc ob).heap.size = w.heap.size + 2 := by rw [World.size_alloc, hS0]
  have hS3 := hf3.size
  -- one frame over all
  have hF0 : Fr (WkT q p s) w W0 := by
    rw [hW0]
    exact ((((Fr.refl _ w).setCell (p := ⟨q, 3, none⟩) (fun _ => .inl rfl) _).setCell (p := ⟨p.ps, x, none⟩) (fun _ => .inr (.inl rfl)) _).setCell (p := ⟨p.pl, x, none⟩) (fun _ => .inr (.inr (.inl rfl))) _).alloc _ |>.drew
  have hF3 : Fr (WkT q p s) w w3 := (hF0.alloc ob).trans' hf3 fun i hi _ => .inr (.inr (.inr (.inr hi)))
  have hF : Fr (WkT q p s) w ((((w3.setCell ⟨q, 4, none⟩ (.slice A3 (s.loose.length + 1) c3)).setCell ⟨p.pb, x, none⟩ (.bool true)).setCell ⟨w.heap.size, 0, none⟩ (.int .i64 (x : Int))).setCell ⟨w.heap.size, 1, none⟩ (.int .i64 0)) :=
    (((hF3.setCell (p := ⟨q, 4, none⟩) (fun _ => .inl rfl) _).setCell (p := ⟨p.pb, x, none⟩) (fun _ => .inr (.inr (.inr (.inl rfl)))) _).setCell (p := ⟨w.heap.size, 0, none⟩) (fun hh => absurd hh (Nat.lt_irrefl _)) _).setCell (p := ⟨w.heap.size, 1, none⟩) (fun hh => absurd hh (Nat.lt_irrefl _)) _
  -- the visit's block
  have hV3 : Blk w3 w.heap.size 59 #[.int .i64 0, .int .i64 0] := by
    have hv : Blk W0 w.heap.size 59 #[.int .i64 0, .int .i64 0] := by
      rw [hW0]
      have := Blk.new (((w.setCell ⟨q, 3, none⟩ (.int .i64 ((s.met : Int) + 1))).setCell ⟨p.ps, x, none⟩ (.int .i64 ((s.met : Int) + 1))).setCell ⟨p.pl, x, none⟩ (.int .i64 ((s.met : Int) + 1))) 59 #[.int .i64 0, .int .i64 0]
      simp only [World.size_setCell] at this
      exact this
    exact (hv.alloc ob).fr hf3 fun e => by have := h.loose.lt _ e; omega
  have hq3 : Blk w3 q 46 #[.slice p.ga n p.gc, .slice (some ⟨p.ps, 0, none⟩) n n, .slice (some ⟨p.pl, 0, none⟩) n n, .int .i64 ((s.met : Int) + 1), .slice p.la s.loose.length p.lc, .slice (some ⟨p.pb, 0, none⟩) n n, .slice p.fa s.found.length p.fc] := by
    have hb := ((((h.blk.set_ 3 (.int .i64 ((s.met : Int) + 1))).far (p := ⟨p.ps, x, none⟩) e1 (.int .i64 ((s.met : Int) + 1))).far (p := ⟨p.pl, x, none⟩) e2 (.int .i64 ((s.met : Int) + 1))).alloc (.cells #[.int .i64 0, .int .i64 0] 59)).drew
    rw [← hW0] at hb
    exact (hb.alloc ob).fr hf3 la1
  have a3q : (Value.slice A3 (s.loose.length + 1) c3).ownBlock ≠ some q := ho3.ne_ hq3 (by decide)
  have a3v : (Value.slice A3 (s.loose.length + 1) c3).ownBlock ≠ some w.heap.size := ho3.ne_ hV3 (by decide)
  have hv1 : Value.int .i64 ((s.met : Int) + 1) = .int .i64 ((s.met + 1 : Nat) : Int) := by congr 1
  have hm3 : Own w3 4 1 (.slice (some ⟨p.pb, 0, none⟩) n n) n (bl (fun k => s.loose.contains k) n) := by
    have h1 := ((((h.mark.setCell (p := ⟨q, 3, none⟩) (by intro e; injection e with e; exact e3 e.symm) (.int .i64 ((s.met : Int) + 1))).setCell (p := ⟨p.ps, x, none⟩) (by intro e; injection e with e; exact e5 e.symm) (.int .i64 ((s.met : Int) + 1))).setCell (p := ⟨p.pl, x, none⟩) (by intro e; injection e with e; exact e6 e.symm) (.int .i64 ((s.met : Int) + 1))).alloc (.cells #[.int .i64 0, .int .i64 0] 59)).drew
    rw [← hW0] at h1
    exact (h1.alloc ob).fr hf3 fun k hk hS => la3 (by injection hk with hk; subst hk; exact hS)
  have hs3 : Own w3 3 1 (.slice (some ⟨p.ps, 0, none⟩) n n) n (ns (s.meet x).seen n) := by
    have h1 := ((h.seen.setCell (p := ⟨q, 3, none⟩) (by intro e; injection e with e; exact e1 e.symm) (.int .i64 ((s.met : Int) + 1))).store x hx (.int .i64 ((s.met : Int) + 1))).1
    have h2 := ((h1.setCell (p := ⟨p.pl, x, none⟩) (by intro e; injection e with e; exact e4 e) (.int .i64 ((s.met : Int) + 1))).alloc (.cells #[.int .i64 0, .int .i64 0] 59)).drew
    rw [← hW0, hv1, ns_set _ _ _ _ hx] at h2
    exact (h2.alloc ob).fr hf3 fun k hk hS => h.ap.2.1 (by injection hk with hk; subst hk; exact hS)
  have hl3 : Own w3 3 1 (.slice (some ⟨p.pl, 0, none⟩) n n) n (ns (s.meet x).low n) := by
    have h1 := (((h.low.setCell (p := ⟨q, 3, none⟩) (by intro e; injection e with e; exact e2 e.symm) (.int .i64 ((s.met : Int) + 1))).setCell (p := ⟨p.ps, x, none⟩) (by intro e; injection e with e; exact e4 e.symm) (.int .i64 ((s.met : Int) + 1))).store x hx (.int .i64 ((s.met : Int) + 1))).1
    have h2 := (h1.alloc (.cells #[.int .i64 0, .int .i64 0] 59)).drew
    rw [← hW0, hv1, ns_set _ _ _ _ hx] at h2
    exact (h2.alloc ob).fr hf3 fun k hk hS => h.ap.2.2 (by injection hk with hk; subst hk; exact hS)
  have hll : (s.meet x).loose.length = s.loose.length + 1 := by show (s.loose ++ [x]).length = _; simp
  obtain ⟨vs, KB, hd⟩ := h.found
  obtain ⟨f1, f2, f3⟩ := h.ffr hF hd
  have hps : p.ps ≠ w.heap.size := by omega
  have hpl : p.pl ≠ w.heap.size := by omega
  have hpb : p.pb ≠ w.heap.size := by omega
  have hqs : q ≠ w.heap.size := by omega
  have o1 : ∀ {b : Nat}, b ≠ p.pb → p.pb ≠ b := fun h e => h e.symm
  refine ⟨{ p with la := A3, lc := c3 }, ?_, hF.mono fun k _ hS => h.wkc hS⟩
  have hA : ∀ k, (Value.slice A3 (s.meet x).loose.length c3).ownBlock = some k → (Value.slice p.la s.loose.length p.lc).ownBlock = some k ∨ k = w.heap.size + 2 := by
    intro k hk
    rw [hll] at hk
    rcases hn3 with e | e
    · exact .inl (e ▸ hk)
    · rw [e, hS1] at hk; injection hk with hk; exact .inr hk.symm
  exact {
    blk := by
      have hb := ((((hq3.set_ 4 (.slice A3 (s.loose.length + 1) c3)).far (p := ⟨p.pb, x, none⟩) e3 (.bool true)).far (p := ⟨w.heap.size, 0, none⟩) hqs (.int .i64 (x : Int))).far (p := ⟨w.heap.size, 1, none⟩) hqs (.int .i64 0))
      show Blk _ q _ #[.slice p.ga n p.gc, .slice (some ⟨p.ps, 0, none⟩) n n, .slice (some ⟨p.pl, 0, none⟩) n n, .int .i64 ((s.met + 1 : Nat) : Int), .slice A3 (s.meet x).loose.length c3, .slice (some ⟨p.pb, 0, none⟩) n n, .slice p.fa s.found.length p.fc]
      rw [hll, ← hv1]
      exact hb
    g := h.gfr hF
    gl := h.gl
    seen := ((((hs3.setCell (p := ⟨q, 4, none⟩) (by intro e; injection e with e; exact e1 e.symm) _).setCell (p := ⟨p.pb, x, none⟩) (by intro e; injection e with e; exact e5 e) _).setCell (p := ⟨w.heap.size, 0, none⟩) (by intro e; injection e with e; exact hps e) _).setCell (p := ⟨w.heap.size, 1, none⟩) (by intro e; injection e with e; exact hps e) _)
    low := ((((hl3.setCell (p := ⟨q, 4, none⟩) (by intro e; injection e with e; exact e2 e.symm) _).setCell (p := ⟨p.pb, x, none⟩) (by intro e; injection e with e; exact e6 e) _).setCell (p := ⟨w.heap.size, 0, none⟩) (by intro e; injection e with e; exact hpl e) _).setCell (p := ⟨w.heap.size, 1, none⟩) (by intro e; injection e with e; exact hpl e) _)
    mark := by
      have h1 := ((hm3.setCell (p := ⟨q, 4, none⟩) (by intro e; injection e with e; exact e3 e.symm) (.slice A3 (s.loose.length + 1) c3)).store x hx (.bool true)).1
      rw [bl_set _ _ _ _ hx] at h1
      have h2 := ((h1.setCell (p := ⟨w.heap.size, 0, none⟩) (by intro e; injection e with e; exact hpb e) (.int .i64 (x : Int))).setCell (p := ⟨w.heap.size, 1, none⟩) (by intro e; injection e with e; exact hpb e) (.int .i64 0))
      rw [bl_congr (r := fun k => (s.meet x).loose.contains k) (fun k _ => ?_)] at h2
      · exact h2
      · show upN _ x true k = (s.loose ++ [x]).contains k
        by_cases e : k = x
        · subst e; rw [upN_at]; simp
        · rw [upN_ne _ _ e]; simp [e]
    loose := by
      have ho := ((((ho3.setCell (p := ⟨q, 4, none⟩) a3q (.slice A3 (s.loose.length + 1) c3)).setCell (p := ⟨p.pb, x, none⟩) (ho3.ne_ (hm3.blk p.pb rfl).choose_spec (by decide)) (.bool true)).setCell (p := ⟨w.heap.size, 0, none⟩) a3v (.int .i64 (x : Int))).setCell (p := ⟨w.heap.size, 1, none⟩) a3v (.int .i64 0))
      show Own _ _ 1 (.slice A3 (s.meet x).loose.length c3) (s.meet x).loose.length (nl (s.loose ++ [x]))
      rw [hll, nl_append]
      exact ho
    found := ⟨vs, KB, f1, fun k hk => by
      obtain ⟨g0, g1, g2, g3, g4, _⟩ := hd.new k hk
      refine ⟨g0, (f2 k hk).1, g2, g3, fun e => ?_, (f2 k hk).2⟩
      rcases hA k e with e | e
      · exact g4 e
      · omega, f3⟩
    new := ⟨h.new.1, h.new.2.1, h.new.2.2.1, h.new.2.2.2.1, fun k hk => by
      rcases hA k hk with e | e
      · exact h.new.2.2.2.2.1 k e
      · have := h.new.1; omega, h.new.2.2.2.2.2⟩
    ap := ⟨e4, fun e => by
      rcases hA _ e with e | e
      · exact h.ap.2.1 e
      · have e' : p.ps = w.heap.size + 2 := e
        omega, fun e => by
      rcases hA _ e with e | e
      · exact h.ap.2.2 e
      · have e' : p.pl = w.heap.size + 2 := e
        omega⟩ }
end Go.Proofs.Ytcjofakhefpfdaa
