/- The walk depth first: what memory holds when a knot is tied. -/
import Derived.Test.YtcjofakhefpfdaaKnX0
namespace Go.Proofs.Ytcjofakhefpfdaa
open Go.RowKit Go.My Go.Maps
set_option linter.unusedSimpArgs false
set_option linter.unusedVariables false

/-- the beginning of a row of one's own -/
theorem own_take {w : World} {t : TypeId} {A : Option Addr} {n c k : Nat} {xs : List Value} (h : Own w t 1 (.slice A n c) n xs) (hk : k ≤ n) : Own w t 1 (.slice A k c) k (xs.take k) := by
  obtain ⟨h1, h2⟩ := h
  refine ⟨by rw [List.length_take]; omega, ?_⟩
  rcases h2 with ⟨hv, h0⟩ | ⟨g, cap, cur, hv, hg, hn, hm, hs, ht⟩
  · injection hv with hA hn hc
    subst hA hc h0
    obtain rfl : k = 0 := by omega
    exact .inl ⟨rfl, rfl⟩
  · injection hv with hA hn2 hc
    subst hA hc
    refine .inr ⟨g, c, cur, rfl, hg, by omega, hm, hs, ?_⟩
    rw [← ht, List.take_take, Nat.mul_one, Nat.mul_one, Nat.min_eq_left hk]

/-- the marks that are taken off -/
def offB (s : Ts) (Z : List Nat) (j k : Nat) : Bool := s.loose.contains k && !(Z.take j).contains k
theorem offB_zero (s : Ts) (Z : List Nat) (n : Nat) : bl (offB s Z 0) n = bl (fun k => s.loose.contains k) n := bl_congr fun k _ => by
  unfold offB; rw [List.take_zero]; simp
theorem offB_step (s : Ts) (Z : List Nat) (j n : Nat) (hj : j < Z.length) : bl (upN (offB s Z j) Z[j] false) n = bl (offB s Z (j + 1)) n := bl_congr fun k _ => by
  have ht : Z.take (j + 1) = Z.take j ++ [Z[j]] := List.take_succ_eq_append_getElem hj
  by_cases e : k = Z[j]
  · subst e
    rw [upN_at]; unfold offB; rw [ht]
    clear ht
    generalize Z[j] = z
    generalize Z.take j = T
    simp
  · have h2 : (Z.take j ++ [Z[j]]).contains k = (Z.take j).contains k := by
      clear ht
      generalize Z[j] = z at *
      generalize Z.take j = T
      rw [Bool.eq_iff_iff]; simp [e]
    rw [upN_ne _ _ e]; unfold offB; rw [ht, h2]
theorem offB_full (s : Ts) (A Z : List Nat) (n : Nat) (hl : s.loose = A ++ Z) (hd : ∀ x ∈ A, x ∉ Z) : bl (offB s Z Z.length) n = bl (fun k => A.contains k) n := bl_congr fun k _ => by
  unfold offB; rw [List.take_length, hl, Bool.eq_iff_iff]
  simp only [Bool.and_eq_true, Bool.not_eq_true', List.contains_iff_mem, List.mem_append]
  rw [← Bool.not_eq_true, List.contains_iff_mem]
  constructor
  · rintro ⟨h | h, h2⟩
    · exact h
    · exact absurd h h2
  · exact fun h => ⟨.inl h, hd k h⟩

theorem rd_mono {w : World} {F F' : Nat → Prop} {size n : Nat} {A : Option Addr} {xs : List Value} (h : Rd w F size A n xs) (hF : ∀ k, F k → F' k) : Rd w F' size A n xs := by
  refine ⟨h.1, fun hp => ?_⟩
  obtain ⟨ad, h1, h2, h3⟩ := h.2 hp
  exact ⟨ad, h1, hF _ h2, h3⟩

/-- the knot that is tied -/
def knOf (Z : List Nat) : List Nat := (sortI (Z.map fun (x : Nat) => (x : Int))).map Int.toNat
theorem knOf_is (Z : List Nat) : is_ (sortI (Z.map fun (x : Nat) => (x : Int))) = nl (knOf Z) := by
  rw [nl_is, knOf, List.map_map]
  congr 1
  symm
  refine (List.map_congr_left (g := id) fun x hx => ?_).trans (List.map_id _)
  rw [sortI_mem, List.mem_map] at hx
  obtain ⟨y, _, rfl⟩ := hx
  simp
theorem knOf_mem (Z : List Nat) (x : Nat) : x ∈ knOf Z ↔ x ∈ Z := by
  rw [knOf, List.mem_map]
  constructor
  · rintro ⟨y, hy, rfl⟩
    rw [sortI_mem, List.mem_map] at hy
    obtain ⟨z, hz, rfl⟩ := hy
    simpa using hz
  · intro hx
    exact ⟨x, by rw [sortI_mem, List.mem_map]; exact ⟨x, hx, rfl⟩, by simp⟩
theorem knOf_len (Z : List Nat) : (knOf Z).length = Z.length := by rw [knOf, List.length_map, sortI_len, List.length_map]
theorem knOf_up (Z : List Nat) (hd : Z.Nodup) : (knOf Z).Pairwise (· < ·) := by
  have h1 := sortI_up (l := Z.map fun (x : Nat) => (x : Int)) (List.pairwise_map.2 (hd.imp fun h e => h (by exact_mod_cast e)))
  rw [knOf, List.pairwise_map]
  refine List.Pairwise.imp_of_mem (fun {a b} ha hb hab => ?_) h1
  rw [sortI_mem, List.mem_map] at ha hb
  obtain ⟨x, _, rfl⟩ := ha
  obtain ⟨y, _, rfl⟩ := hb
  simpa using hab

theorem tie_mem {B : Nat} {w : World} {q : Nat} {p : Wp} {n : Nat} {G : List (List Int)} {s : Ts} {A Z : List Nat} (h : WkS B w q p n G s) (hl : s.loose = A ++ Z) (hd : ∀ x ∈ A, x ∉ Z) (hz : 0 < Z.length) (hn : n ≤ 1000)
    {w2 W3 w4 w5 w6 : World} {ob : Obj} {A6 : Option Addr} {c6 kg kc : Nat} {vs : List Value} {KB : Nat → Prop} (hfd : FdS B w p s vs KB)
    (hf2 : Fr No w w2) (hW3 : W3 = w2.setCell ⟨q, 4, none⟩ (.slice p.la A.length p.lc)) (hkn : w.heap.size ≤ kg)
    (hm4 : Own w4 4 1 (.slice (some ⟨p.pb, 0, none⟩) n n) n (bl (offB s Z Z.length) n)) (hf4 : Fr (At1 p.pb) W3 w4)
    (ho5 : Own w5 3 1 (.slice (some ⟨kg, 0, none⟩) Z.length kc) Z.length (is_ (sortI (Z.map fun (x : Nat) => (x : Int))))) (hf5 : Fr (At1 kg) w4 w5)
    (ho6 : Own w6 26 1 (.slice A6 (s.found.length + 1) c6) (s.found.length + 1) (vs ++ [.slice (some ⟨kg, 0, none⟩) Z.length kc]))
    (hf6 : Fr (AtO (Value.slice p.fa s.found.length p.fc).ownBlock) (w5.alloc ob) w6)
    (hn6 : (Value.slice A6 (s.found.length + 1) c6).ownBlock = (Value.slice p.fa s.found.length p.fc).ownBlock ∨ (Value.slice A6 (s.found.length + 1) c6).ownBlock = some (w5.alloc ob).heap.size) :
    WkN B w q n G (s.tie A (knOf Z)) (w6.setCell ⟨q, 6, none⟩ (.slice A6 (s.found.length + 1) c6)) := by
  obtain ⟨cu1, bs1⟩ := blk_ps h
  obtain ⟨cu2, bs2⟩ := blk_pl h
  obtain ⟨cu3, bs3⟩ := blk_pb h
  have e1 : q ≠ p.ps := Blk.ne_ h.blk bs1 (by decide)
  have e2 : q ≠ p.pl := Blk.ne_ h.blk bs2 (by decide)
  have e3 : q ≠ p.pb := Blk.ne_ h.blk bs3 (by decide)
  have e5 : p.ps ≠ p.pb := Blk.ne_ bs1 bs3 (by decide)
  have e6 : p.pl ≠ p.pb := Blk.ne_ bs2 bs3 (by decide)
  have l0 := h.blk.lt
  have l1 := bs1.lt
  have l2 := bs2.lt
  have l3 := bs3.lt
  have b0 := h.new.1
  have la1 : (Value.slice p.la s.loose.length p.lc).ownBlock ≠ some q := h.loose.ne_ h.blk (by decide)
  have la3 : (Value.slice p.la s.loose.length p.lc).ownBlock ≠ some p.pb := h.loose.ne_ bs3 (by decide)
  have fa1 : (Value.slice p.fa s.found.length p.fc).ownBlock ≠ some q := hfd.out.ne_ h.blk (by decide)
  have fa2 : (Value.slice p.fa s.found.length p.fc).ownBlock ≠ some p.pb := hfd.out.ne_ bs3 (by decide)
  have fa3 : (Value.slice p.fa s.found.length p.fc).ownBlock ≠ some p.ps := hfd.out.ne_ bs1 (by decide)
  have fa4 : (Value.slice p.fa s.found.length p.fc).ownBlock ≠ some p.pl := hfd.out.ne_ bs2 (by decide)
  have hs2 := hf2.size
  have hsW : W3.heap.size = w2.heap.size := by rw [hW3, World.size_setCell]
  have hs4 := hf4.size
  have hs5 := hf5.size
  have hs6 := hf6.size
  rw [World.size_alloc] at hs6
  have hk5 : kg < w5.heap.size := by
    obtain ⟨c, hc⟩ := ho5.blk kg rfl
    exact hc.lt
  have hsz7 : (w6.setCell ⟨q, 6, none⟩ (.slice A6 (s.found.length + 1) c6)).heap.size = w6.heap.size := World.size_setCell ..
  -- one frame over all
  have hF3 : Fr (fun k => k = q ∨ k = p.pb ∨ (Value.slice p.fa s.found.length p.fc).ownBlock = some k) w W3 := by
    rw [hW3]
    exact (hf2.mono fun _ _ hh => nomatch hh).setCell (p := ⟨q, 4, none⟩) (fun _ => .inl rfl) _
  have hF5 := (hF3.trans' hf4 fun i hi _ => .inr (.inl hi)).trans' hf5 fun i hi hlt => absurd hlt (by have hi : i = kg := hi; omega)
  have hF6 := (hF5.alloc ob).trans' hf6 fun i hi _ => .inr (.inr hi)
  have hF := hF6.setCell (p := ⟨q, 6, none⟩) (fun _ => .inl rfl) (.slice A6 (s.found.length + 1) c6)
  -- the walk's own block
  have hq6 : Blk w6 q 46 #[.slice p.ga n p.gc, .slice (some ⟨p.ps, 0, none⟩) n n, .slice (some ⟨p.pl, 0, none⟩) n n, .int .i64 (s.met : Int), .slice p.la A.length p.lc, .slice (some ⟨p.pb, 0, none⟩) n n, .slice p.fa s.found.length p.fc] := by
    have hb := (h.blk.fr hf2 (fun hh => nomatch hh)).set_ 4 (.slice p.la A.length p.lc)
    rw [← hW3] at hb
    exact (((hb.fr hf4 e3).fr hf5 (by show q ≠ kg; omega)).alloc ob).fr hf6 fa1
  have hm6 : Own w6 4 1 (.slice (some ⟨p.pb, 0, none⟩) n n) n (bl (fun k => A.contains k) n) := by
    rw [offB_full s A Z n hl hd] at hm4
    exact ((hm4.fr hf5 fun k hk hS => by
      injection hk with hk; have hS : k = kg := hS; have hk : p.pb = k := hk; omega).alloc ob).fr hf6 fun k hk hS => fa2 (by injection hk with hk; subst hk; exact hS)
  have ho6k : Own w6 3 1 (.slice (some ⟨kg, 0, none⟩) Z.length kc) Z.length (nl (knOf Z)) := by
    rw [knOf_is] at ho5
    exact (ho5.alloc ob).fr hf6 fun k hk hS => by
      injection hk with hk
      have hk : kg = k := hk
      have := hfd.out.lt k hS
      omega
  obtain ⟨ck, hbk⟩ := ho6k.blk kg rfl
  have a6q : (Value.slice A6 (s.found.length + 1) c6).ownBlock ≠ some q := ho6.ne_ hq6 (by decide)
  have hfl : (s.tie A (knOf Z)).found.length = s.found.length + 1 := by show (s.found ++ [knOf Z]).length = _; simp
  have hA6 : ∀ k, (Value.slice A6 (s.found.length + 1) c6).ownBlock = some k → B ≤ k := by
    intro k hk
    rcases hn6 with e | e
    · exact h.new.2.2.2.2.2 k (e ▸ hk)
    · rw [e] at hk; injection hk with hk; rw [World.size_alloc] at hk; omega
  have hlen : s.loose.length = A.length + Z.length := by rw [hl, List.length_append]
  have hob : (Value.slice p.la A.length p.lc).ownBlock = (Value.slice p.la s.loose.length p.lc).ownBlock := by cases p.la <;> rfl
  have hK : ∀ k, KB k → ¬ (k = q ∨ k = p.pb ∨ (Value.slice p.fa s.found.length p.fc).ownBlock = some k) := by
    intro k hk hS
    obtain ⟨_, _, h2, h3, h4, cur, h5⟩ := hfd.new k hk
    rcases hS with rfl | rfl | e
    · exact Blk.ne_ h.blk h5 (by decide) rfl
    · exact Blk.ne_ bs3 h5 (by decide) rfl
    · exact hfd.out.ne_ h5 (by decide) e
  have hloose : Own (w6.setCell ⟨q, 6, none⟩ (.slice A6 (s.found.length + 1) c6)) 3 1 (.slice p.la A.length p.lc) A.length (nl A) := by
    have ho := own_take (h.loose.fr hF fun k hk hS => by
      rcases hS with rfl | rfl | e
      · exact la1 hk
      · exact la3 hk
      · obtain ⟨c, hc⟩ := h.la_blk hk; exact hfd.out.ne_ hc (by decide) e) (k := A.length) (by omega)
    have hd : (nl s.loose).take A.length = nl A := by rw [nl, ← List.map_take, hl, List.take_left]; rfl
    rwa [hd] at ho
  have hg : RdG (w6.setCell ⟨q, 6, none⟩ (.slice A6 (s.found.length + 1) c6)) (fun k => k < B) p.ga G := h.g.fr hF fun k hk _ hS => by
    rcases hS with rfl | rfl | e
    · omega
    · have := h.new.2.2.2.1; omega
    · have := h.new.2.2.2.2.2 k e; omega
  refine ⟨{ p with fa := A6, fc := c6 }, ?_, hF.mono fun k _ hS => ?_⟩
  · exact {
      blk := by
        have hb := hq6.set_ 6 (.slice A6 (s.found.length + 1) c6)
        show Blk _ q _ #[.slice p.ga n p.gc, .slice (some ⟨p.ps, 0, none⟩) n n, .slice (some ⟨p.pl, 0, none⟩) n n, .int .i64 (s.met : Int), .slice p.la A.length p.lc, .slice (some ⟨p.pb, 0, none⟩) n n, .slice A6 (s.tie A (knOf Z)).found.length c6]
        rw [hfl]
        exact hb
      g := hg
      gl := h.gl
      seen := h.seen.fr hF fun k hk hS => by
        injection hk with hk
        have hk : p.ps = k := hk
        subst hk
        rcases hS with e | e | e
        · exact e1 e.symm
        · exact e5 e
        · exact fa3 e
      low := h.low.fr hF fun k hk hS => by
        injection hk with hk
        have hk : p.pl = k := hk
        subst hk
        rcases hS with e | e | e
        · exact e2 e.symm
        · exact e6 e
        · exact fa4 e
      mark := hm6.setCell (p := ⟨q, 6, none⟩) (by intro e; injection e with e; exact e3 e.symm) _
      loose := hloose
      found := ⟨vs ++ [.slice (some ⟨kg, 0, none⟩) Z.length kc], fun k => KB k ∨ k = kg, by
        show Own _ _ 1 (.slice A6 (s.tie A (knOf Z)).found.length c6) (s.tie A (knOf Z)).found.length _
        rw [hfl]
        exact ho6.setCell (p := ⟨q, 6, none⟩) a6q _, fun k hk => by
        rcases hk with hk | rfl
        · obtain ⟨g0, g1, g2, g3, g4, cur, g5⟩ := hfd.new k hk
          refine ⟨g0, by rw [hsz7]; omega, g2, g3, fun e => g4 (hob ▸ e), cur, g5.fr hF (hK k hk)⟩
        · refine ⟨by omega, by rw [hsz7]; omega, by show k ≠ p.ps; omega, by show k ≠ p.pl; omega, fun e => ?_, ck, hbk.far (p := ⟨q, 6, none⟩) (by show k ≠ q; omega) _⟩
          have e : (Value.slice p.la A.length p.lc).ownBlock = some k := e
          have := h.loose.lt k (hob ▸ e)
          omega, fun i K hi => by
        have hi : (s.found ++ [knOf Z])[i]? = some K := hi
        have hvl := hfd.out.1
        by_cases hil : i < s.found.length
        · rw [List.getElem?_append_left hil] at hi
          obtain ⟨A', c, r1, r2, r3⟩ := hfd.row i K hi
          refine ⟨A', c, by rw [List.getElem?_append_left (by omega)]; exact r1, rd_mono (r2.fr (by omega) hF fun k hk _ => hK k hk) fun k hk => .inl hk, r3⟩
        · rw [List.getElem?_append_right (by omega)] at hi
          obtain hi0 : i = s.found.length := by
            have : i - s.found.length < 1 := by
              have := (List.getElem?_eq_some_iff.1 hi).1
              simpa using this
            omega
          subst hi0
          rw [Nat.sub_self] at hi
          have hi : some (knOf Z) = some K := hi
          injection hi with hi
          subst hi
          obtain ⟨_, _, hkf, hkc, hkm⟩ := ho5.form
          injection hkf with _ _ hkf
          subst hkf
          refine ⟨some ⟨kg, 0, none⟩, kc, by rw [List.getElem?_append_right (by omega), hvl, Nat.mul_one, Nat.sub_self, knOf_len]; rfl, ?_, by rw [knOf_len]; exact hkc, hkm⟩
          rw [knOf_len]
          exact rd_mono (ho6k.setCell (p := ⟨q, 6, none⟩) (by intro e; injection e with e; have e : kg = q := e; omega) _).rd fun k hk => .inr (by injection hk with hk; exact hk.symm)⟩
      new := ⟨h.new.1, h.new.2.1, h.new.2.2.1, h.new.2.2.2.1, fun k hk => h.new.2.2.2.2.1 k (hob ▸ hk), fun k hk => by
        have hk : (Value.slice A6 (s.tie A (knOf Z)).found.length c6).ownBlock = some k := hk
        rw [hfl] at hk
        exact hA6 k hk⟩
      ap := ⟨h.ap.1, fun e => h.ap.2.1 (hob ▸ e), fun e => h.ap.2.2 (hob ▸ e)⟩ }
  · rcases hS with rfl | rfl | e
    · exact wkc_of h.new.1 h.blk (by decide)
    · exact wkc_of h.new.2.2.2.1 bs3 (by decide)
    · obtain ⟨c, hc⟩ := hfd.out.blk k e
      exact wkc_of (h.new.2.2.2.2.2 k e) hc (by decide)
end Go.Proofs.Ytcjofakhefpfdaa
