/- The walk depth first, in memory. -/
import Derived.Test.YtcjofakhefpfdaaKnT
import Derived.Test.YtcjofakhefpfdaaKnM1
namespace Go.Proofs.Ytcjofakhefpfdaa
open Go.RowKit Go.My Go.Maps
set_option linter.unusedSimpArgs false
set_option linter.unusedVariables false

/-! ### rows of numbers and marks, told by functions -/
def ns (f : Nat → Nat) (n : Nat) : List Value := (List.range n).map fun k => Value.int .i64 (f k : Int)
def bl (p : Nat → Bool) (n : Nat) : List Value := (List.range n).map fun k => Value.bool (p k)
def nl (l : List Nat) : List Value := l.map fun (x : Nat) => Value.int .i64 (x : Int)
theorem ns_len (f : Nat → Nat) (n : Nat) : (ns f n).length = n := by simp [ns]
theorem bl_len (p : Nat → Bool) (n : Nat) : (bl p n).length = n := by simp [bl]
theorem nl_len (l : List Nat) : (nl l).length = l.length := by simp [nl]
theorem ns_at (f : Nat → Nat) (n k : Nat) (h : k < n) : (ns f n)[k]? = some (.int .i64 (f k)) := by simp [ns, h]
theorem bl_at (p : Nat → Bool) (n k : Nat) (h : k < n) : (bl p n)[k]? = some (.bool (p k)) := by simp [bl, h]
theorem nl_at (l : List Nat) (k : Nat) (h : k < l.length) : (nl l)[k]? = some (.int .i64 (l[k] : Int)) := by simp [nl, h]
theorem nl_append (l m : List Nat) : nl (l ++ m) = nl l ++ nl m := by simp [nl]
theorem nl_is (l : List Nat) : nl l = is_ (l.map fun (x : Nat) => (x : Int)) := by simp [nl, is_]
theorem ns_set (f : Nat → Nat) (n k v : Nat) (h : k < n) : (ns f n).set k (.int .i64 (v : Int)) = ns (upN f k v) n := by
  apply List.ext_getElem?
  intro i
  by_cases hi : i < n
  · by_cases e : i = k
    · subst e
      rw [List.getElem?_set_self (by rw [ns_len]; exact hi), ns_at _ _ _ hi, upN_at]
    · rw [List.getElem?_set_ne (fun e2 => e e2.symm), ns_at _ _ _ hi, ns_at _ _ _ hi, upN_ne _ _ e]
  · rw [List.getElem?_eq_none (by rw [List.length_set, ns_len]; omega), List.getElem?_eq_none (by rw [ns_len]; omega)]
theorem bl_set (p : Nat → Bool) (n k : Nat) (b : Bool) (h : k < n) : (bl p n).set k (.bool b) = bl (upN p k b) n := by
  apply List.ext_getElem?
  intro i
  by_cases hi : i < n
  · by_cases e : i = k
    · subst e
      rw [List.getElem?_set_self (by rw [bl_len]; exact hi), bl_at _ _ _ hi, upN_at]
    · rw [List.getElem?_set_ne (fun e2 => e e2.symm), bl_at _ _ _ hi, bl_at _ _ _ hi, upN_ne _ _ e]
  · rw [List.getElem?_eq_none (by rw [List.length_set, bl_len]; omega), List.getElem?_eq_none (by rw [bl_len]; omega)]
theorem bl_congr {p r : Nat → Bool} {n : Nat} (h : ∀ k, k < n → p k = r k) : bl p n = bl r n := by
  unfold bl
  exact List.map_congr_left fun k hk => by rw [h k (List.mem_range.1 hk)]
theorem ns_zero (n : Nat) : ns (fun _ => 0) n = zrow n (.int .i64 0) := by
  apply List.ext_getElem?
  intro k
  unfold ns zrow
  by_cases h : k < n
  · simp [h]
  · simp [h]
theorem bl_zero (n : Nat) : bl (fun _ => false) n = zrow n (.bool false) := by
  apply List.ext_getElem?
  intro k
  unfold bl zrow
  by_cases h : k < n
  · simp [h]
  · simp [h]

/-! ### where the walk's rows lie -/
structure Wp where
  ga : Option Addr
  gc : Nat
  ps : Nat
  pl : Nat
  pb : Nat
  la : Option Addr
  lc : Nat
  fa : Option Addr
  fc : Nat
/-- the knots that were found, in blocks that are none of the walk's other ones -/
structure FdS (B : Nat) (w : World) (p : Wp) (s : Ts) (vs : List Value) (KB : Nat → Prop) : Prop where
  out : Own w 26 1 (.slice p.fa s.found.length p.fc) s.found.length vs
  new : ∀ k, KB k → B ≤ k ∧ k < w.heap.size ∧ k ≠ p.ps ∧ k ≠ p.pl ∧ (Value.slice p.la s.loose.length p.lc).ownBlock ≠ some k ∧ ∃ cur, Blk w k 3 cur
  row : ∀ (i : Nat) (K : List Nat), s.found[i]? = some K → ∃ A c, vs[i]? = some (.slice A K.length c) ∧ Rd w KB 1 A K.length (nl K) ∧ K.length ≤ c ∧ c ≤ maxLen
structure WkS (B : Nat) (w : World) (q : Nat) (p : Wp) (n : Nat) (G : List (List Int)) (s : Ts) : Prop where
  blk : Blk w q 46 #[.slice p.ga n p.gc, .slice (some ⟨p.ps, 0, none⟩) n n, .slice (some ⟨p.pl, 0, none⟩) n n, .int .i64 (s.met : Int), .slice p.la s.loose.length p.lc, .slice (some ⟨p.pb, 0, none⟩) n n, .slice p.fa s.found.length p.fc]
  g : RdG w (fun k => k < B) p.ga G
  gl : G.length = n
  seen : Own w 3 1 (.slice (some ⟨p.ps, 0, none⟩) n n) n (ns s.seen n)
  low : Own w 3 1 (.slice (some ⟨p.pl, 0, none⟩) n n) n (ns s.low n)
  mark : Own w 4 1 (.slice (some ⟨p.pb, 0, none⟩) n n) n (bl (fun k => s.loose.contains k) n)
  loose : Own w 3 1 (.slice p.la s.loose.length p.lc) s.loose.length (nl s.loose)
  found : ∃ vs KB, FdS B w p s vs KB
  new : B ≤ q ∧ B ≤ p.ps ∧ B ≤ p.pl ∧ B ≤ p.pb ∧ (∀ k, (Value.slice p.la s.loose.length p.lc).ownBlock = some k → B ≤ k) ∧ (∀ k, (Value.slice p.fa s.found.length p.fc).ownBlock = some k → B ≤ k)
  ap : p.ps ≠ p.pl ∧ (Value.slice p.la s.loose.length p.lc).ownBlock ≠ some p.ps ∧ (Value.slice p.la s.loose.length p.lc).ownBlock ≠ some p.pl
/-- what the walk may change: blocks behind B that hold no visits -/
def WkC (B : Nat) (w : World) (k : Nat) : Prop := B ≤ k ∧ ∀ cur, ¬ Blk w k 59 cur
section
variable {B : Nat} {w w' : World} {q : Nat} {p : Wp} {n : Nat} {G : List (List Int)} {s : Ts}
theorem blk_ps (h : WkS B w q p n G s) : ∃ cur, Blk w p.ps 3 cur := h.seen.blk p.ps rfl
theorem blk_pl (h : WkS B w q p n G s) : ∃ cur, Blk w p.pl 3 cur := h.low.blk p.pl rfl
theorem blk_pb (h : WkS B w q p n G s) : ∃ cur, Blk w p.pb 4 cur := h.mark.blk p.pb rfl
theorem wkc_of {k : Nat} {t : TypeId} {cur : Array Value} (hB : B ≤ k) (hb : Blk w k t cur) (ht : t ≠ 59) : WkC B w k := ⟨hB, fun c hc => Blk.ne_ hb hc ht rfl⟩
end
end Go.Proofs.Ytcjofakhefpfdaa
