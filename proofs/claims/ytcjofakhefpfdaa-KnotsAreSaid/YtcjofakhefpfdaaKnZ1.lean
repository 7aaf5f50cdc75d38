/- The walk depth first: bounds, and what holds on the way. -/
import Derived.Test.YtcjofakhefpfdaaKnZ0
import Derived.Test.YtcjofakhefpfdaaKnX
import Derived.Test.YtcjofakhefpfdaaKnY
namespace Go.Proofs.Ytcjofakhefpfdaa
open Go.RowKit Go.My Go.Maps
set_option linter.unusedSimpArgs false
set_option linter.unusedVariables false

theorem nodup_leN {l : List Nat} {n : Nat} (hd : l.Nodup) (hr : ∀ x ∈ l, x < n) : l.length ≤ n := by
  have h := nodup_le (l := l.map fun (x : Nat) => (x : Int)) (n := n) (List.pairwise_map.2 (hd.imp fun h e => h (by exact_mod_cast e))) (fun x hx => by
    obtain ⟨y, hy, rfl⟩ := List.mem_map.1 hx
    have := hr y hy
    omega)
  rwa [List.length_map] at h
section
variable {n : Nat} {G : Nat → List Nat} {s : Ts} {P : List (Nat × Nat)}
theorem TI.loose_le (h : TI n G s P) : s.loose.length ≤ n := nodup_leN h.nodup fun x hx => h.rng x (h.lseen x hx)
theorem flat_le : ∀ l : List (List Nat), (∀ K ∈ l, K ≠ []) → l.length ≤ l.flatten.length
  | [], _ => Nat.le_refl _
  | K :: l, h => by
    have h1 := flat_le l fun K hK => h K (List.mem_cons_of_mem _ hK)
    have h2 : 0 < K.length := List.length_pos_iff.2 (h K List.mem_cons_self)
    rw [List.flatten_cons, List.length_append, List.length_cons]
    omega
theorem TI.found_le (h : TI n G s P) : s.found.length ≤ n := by
  refine Nat.le_trans (flat_le _ fun K hK => (h.fd K hK).ne) (nodup_leN h.fnd fun x hx => ?_)
  obtain ⟨K, hK, hx⟩ := List.mem_flatten.1 hx
  exact h.rng x ((h.fmem x).2 ⟨K, hK, hx⟩).1
theorem TI.path_le (h : TI n G s P) : P.length ≤ n := by
  have := nodup_leN (l := P.map Prod.fst) (n := n) (List.pairwise_map.2 (h.pd.imp fun h e => by rw [e] at h; exact Nat.lt_irrefl _ h)) (fun x hx => by
    obtain ⟨⟨v, k⟩, hm, rfl⟩ := List.mem_map.1 hx
    exact h.rng v (h.lseen v (h.pl v k hm)))
  rwa [List.length_map] at this
end
/-- the graph as numbers -/
def gm (G : List (List Int)) (v : Nat) : List Nat := (gat G v).map Int.toNat
theorem gm_len (G : List (List Int)) (v : Nat) : (gm G v).length = (gat G v).length := by rw [gm, List.length_map]
theorem gm_at {G : List (List Int)} (hP : Pl G) (v k : Nat) (h : k < (gm G v).length) : (gat G v)[k]? = some ((gm G v)[k] : Int) ∧ (gm G v)[k] < G.length := by
  have h2 : k < (gat G v).length := by rw [← gm_len]; exact h
  have h3 := hP v _ (List.getElem_mem h2)
  have e : (gm G v)[k] = ((gat G v)[k]).toNat := List.getElem_map (l := gat G v) Int.toNat
  rw [e, List.getElem?_eq_getElem h2]
  exact ⟨by congr 1; omega, by omega⟩
theorem gm_lt {G : List (List Int)} (hP : Pl G) (v : Nat) : ∀ y ∈ gm G v, y < G.length := fun y hy => by
  obtain ⟨x, hx, rfl⟩ := List.mem_map.1 hy
  have := hP v x hx
  omega
/-- what holds on the way -/
structure OnW (B : Nat) (w0 : World) (q n : Nat) (G : List (List Int)) (s0 : Ts) (x : Nat) (s : Ts) (P : List (Nat × Nat)) (p : Wp) (pa : Option Addr) (pc : Nat) (w : World) : Prop where
  way : PaM B w pa pc P
  mem : WkS B w q p n G s
  ti : TI n (gm G) s P
  cnt : s.met + uns s n = n
  old : ∀ y, s0.seen y ≠ 0 → s.seen y ≠ 0
  fst : s.seen x ≠ 0
  fr : Fr (fun k => B ≤ k) w0 w
def FrO (B : Nat) (w0 : World) (q n : Nat) (G : List (List Int)) (s0 : Ts) (x : Nat) (k : Nat) (iv : Value) (w : World) : Prop :=
  ∃ s P p pa pc, iv = .slice pa P.length pc ∧ OnW B w0 q n G s0 x s P p pa pc w ∧ k = 2 * uns s n + P.length
def FrI (B : Nat) (w0 : World) (q n : Nat) (G : List (List Int)) (s0 : Ts) (x : Nat) (v : Nat) (R : List (Nat × Nat)) (g pc U : Nat) (k : Nat) (iv : Value) (w : World) : Prop :=
  ∃ s p j, iv = .slice (some ⟨g, 0, none⟩) (R.length + 1) pc ∧ OnW B w0 q n G s0 x s ((v, j) :: R) p (some ⟨g, 0, none⟩) pc w ∧ uns s n = U ∧ k = (gm G v).length - j
theorem WkS.over {B : Nat} {w w' : World} {q : Nat} {p : Wp} {n : Nat} {G : List (List Int)} {s : Ts} (h : WkS B w q p n G s) (hf : Fr No w w') : WkS B w' q p n G s := by
  obtain ⟨vs, KB, hd⟩ := h.found
  exact {
    blk := h.blk.fr hf (fun h => h)
    g := h.g.fr hf fun _ _ _ h => h
    gl := h.gl
    seen := h.seen.fr hf fun _ _ h => h
    low := h.low.fr hf fun _ _ h => h
    mark := h.mark.fr hf fun _ _ h => h
    loose := h.loose.fr hf fun _ _ h => h
    found := ⟨vs, KB, hd.out.fr hf (fun _ _ h => h), fun k hk => by
      obtain ⟨g0, g1, g2, g3, g4, cur, g5⟩ := hd.new k hk
      exact ⟨g0, Nat.lt_of_lt_of_le g1 hf.size, g2, g3, g4, cur, g5.fr hf (fun h => h)⟩, fun i K hi => by
      obtain ⟨A', c, r1, r2, r3⟩ := hd.row i K hi
      exact ⟨A', c, r1, r2.fr (by omega) hf fun _ _ _ h => h, r3⟩⟩
    new := h.new
    ap := h.ap }
theorem OnW.over {B : Nat} {w0 w w' : World} {q n : Nat} {G : List (List Int)} {s0 s : Ts} {x : Nat} {P : List (Nat × Nat)} {p : Wp} {pa : Option Addr} {pc : Nat} (h : OnW B w0 q n G s0 x s P p pa pc w) (hf : Fr No w w') : OnW B w0 q n G s0 x s P p pa pc w' :=
  ⟨h.way.fr (hf.mono fun _ _ h => nomatch h), h.mem.over hf, h.ti, h.cnt, h.old, h.fst, h.fr.trans' hf fun _ h => nomatch h⟩
/-- writes into the way's blocks, and new blocks -/
theorem WkS.far {B : Nat} {w w' : World} {q : Nat} {p : Wp} {n : Nat} {G : List (List Int)} {s : Ts} {S : Nat → Prop} (h : WkS B w q p n G s) (hf : Fr S w w') (hS : ∀ k, S k → k < w.heap.size → B ≤ k ∧ ∃ cv, Blk w k 59 cv) : WkS B w' q p n G s := by
  obtain ⟨vs, KB, hd⟩ := h.found
  have key : ∀ {t : TypeId} {m : Nat} {v : Value} {xs : List Value}, t ≠ 59 → Own w t 1 v m xs → Own w' t 1 v m xs := fun ht ho => ho.fr hf fun k hk hk2 => by
    obtain ⟨_, cv, hv⟩ := hS k hk2 (ho.lt k hk)
    exact ho.ne_ hv ht hk
  have hK : ∀ k, KB k → ¬ S k := fun k hk hk2 => by
    obtain ⟨_, g1, _, _, _, cur, h5⟩ := hd.new k hk
    obtain ⟨_, cv, hv⟩ := hS k hk2 g1
    exact Blk.ne_ hv h5 (by decide) rfl
  exact {
    blk := h.blk.fr hf fun hq => by
      obtain ⟨_, cv, hv⟩ := hS q hq h.blk.lt
      exact Blk.ne_ h.blk hv (by decide) rfl
    g := h.g.fr hf fun k hk hlt hk2 => by have := (hS k hk2 hlt).1; omega
    gl := h.gl
    seen := key (by decide) h.seen
    low := key (by decide) h.low
    mark := key (by decide) h.mark
    loose := key (by decide) h.loose
    found := ⟨vs, KB, key (by decide) hd.out, fun k hk => by
      obtain ⟨g0, g1, g2, g3, g4, cur, g5⟩ := hd.new k hk
      exact ⟨g0, Nat.lt_of_lt_of_le g1 hf.size, g2, g3, g4, cur, g5.fr hf (hK k hk)⟩, fun i K hi => by
      obtain ⟨A', c, r1, r2, r3⟩ := hd.row i K hi
      exact ⟨A', c, r1, r2.fr (by omega) hf fun k hk _ => hK k hk, r3⟩⟩
    new := h.new
    ap := h.ap }
/-- a place is put on the way -/
theorem push_mem {B : Nat} {w0 w w7 : World} {q n : Nat} {G : List (List Int)} {s : Ts} {P : List (Nat × Nat)} {p : Wp} {pa A7 : Option Addr} {pc c7 y : Nat} {ob : Obj} (hp : PaM B w pa pc P) (hs : WkS B w q p n G s) (hF : Fr (fun k => B ≤ k) w0 w) (hB : B ≤ w.heap.size)
    (ho : Own w7 59 2 (.slice A7 (P.length + 1) c7) (P.length + 1) (pv P ++ [.int .i64 (y : Int), .int .i64 0])) (hf : Fr (AtO (Value.slice pa P.length pc).ownBlock) (w.alloc ob) w7)
    (hn : (Value.slice A7 (P.length + 1) c7).ownBlock = (Value.slice pa P.length pc).ownBlock ∨ (Value.slice A7 (P.length + 1) c7).ownBlock = some (w.alloc ob).heap.size) :
    PaM B w7 A7 c7 ((y, 0) :: P) ∧ WkS B w7 q p n G s ∧ Fr (fun k => B ≤ k) w0 w7 := by
  have hf1 : Fr (AtO (Value.slice pa P.length pc).ownBlock) w w7 := ((Fr.refl _ w).alloc ob).trans' hf fun _ h _ => h
  refine ⟨⟨ho, fun k hk => ?_⟩, hs.far hf1 fun k hk _ => ⟨hp.2 k hk, hp.1.blk k hk⟩, hF.trans' hf1 fun k hk _ => hp.2 k hk⟩
  have hk : (Value.slice A7 (P.length + 1) c7).ownBlock = some k := hk
  rcases hn with e | e
  · exact hp.2 k (e ▸ hk)
  · rw [e, World.size_alloc] at hk; injection hk with hk; omega
/-- a place's next edge is looked at -/
theorem OnW.bump {B : Nat} {w0 w : World} {q n : Nat} {G : List (List Int)} {s0 s : Ts} {x v k : Nat} {R : List (Nat × Nat)} {p : Wp} {g pc : Nat} (h : OnW B w0 q n G s0 x s ((v, k) :: R) p (some ⟨g, 0, none⟩) pc w) :
    PaM B (w.setCell ⟨g, R.length * 2 + 1, none⟩ (.int .i64 ((k + 1 : Nat) : Int))) (some ⟨g, 0, none⟩) pc ((v, k + 1) :: R) ∧ WkS B (w.setCell ⟨g, R.length * 2 + 1, none⟩ (.int .i64 ((k + 1 : Nat) : Int))) q p n G s ∧ Fr (fun k => B ≤ k) w0 (w.setCell ⟨g, R.length * 2 + 1, none⟩ (.int .i64 ((k + 1 : Nat) : Int))) := by
  obtain ⟨g', hge, k1, k2, ⟨cv, k3⟩, k4, k5, k6, k7⟩ := h.way.last
  obtain rfl : g = g' := by injection hge with e; injection e
  exact ⟨k7, h.mem.way k3 k1 _, h.fr.trans' (fr_set _ _ _ _) fun i hi _ => by have hi : i = g := hi; omega⟩
end Go.Proofs.Ytcjofakhefpfdaa
