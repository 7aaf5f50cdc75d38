/- Reach. -/
import Derived.Test.YtcjofakhefpfdaaKnV
namespace Go.Proofs.Ytcjofakhefpfdaa
open Go.RowKit Go.My Go.Maps
set_option linter.unusedSimpArgs false
set_option linter.unusedVariables false
attribute [local go_sem ↓] Go.wp_at_zero Go.wp_at_succ

theorem RetX.over {w w1 w' : World} {X : Int → Prop} {e : Ending} (h : RetX w1 X e w') (hf : Fr No w w1) : RetX w X e w' := by
  obtain ⟨L, h1, h2, v, rfl, h3, h4, h5⟩ := h
  refine ⟨L, h1, h2, v, rfl, h3, (hf.mono fun _ _ h => h.elim).trans h4, ?_⟩
  rcases h5 with h5 | ⟨k, h5, h6⟩
  · exact .inl h5
  · exact .inr ⟨k, h5, by have := hf.size; omega⟩
theorem RetX.iff {w w' : World} {X Y : Int → Prop} {e : Ending} (h : RetX w X e w') (hi : ∀ x, X x ↔ Y x) : RetX w Y e w' := by
  obtain ⟨L, h1, h2, h3⟩ := h
  exact ⟨L, h1, fun x => (h2 x).trans (hi x), h3⟩
theorem RetX.none {w : World} {X : Int → Prop} (h : ∀ x, ¬ X x) : RetX w X (.returned (.slice none 0 0)) w := ⟨[], List.Pairwise.nil, fun x => ⟨fun hx => absurd hx (List.not_mem_nil), fun hx => absurd hx (h x)⟩, _, rfl, Own.nil _ _ _, Fr.refl _ _, .inl rfl⟩
theorem gat_rows (f : Nat → List Int) (n k : Nat) : gat (rows f n) k = if k < n then f k else [] := by
  unfold gat
  by_cases h : k < n
  · rw [List.getD_eq_getElem?_getD, rows_get _ _ _ h, if_pos h]
    rfl
  · rw [List.getD_eq_getElem?_getD, List.getElem?_eq_none (by rw [rows_length]; omega), if_neg h]
    rfl
theorem gat_len {G : List (List Int)} {M : Nat} (h : ∀ L ∈ G, L.length ≤ M) (k : Nat) : (gat G k).length ≤ M := by
  unfold gat
  by_cases hk : k < G.length
  · rw [List.getD_eq_getElem?_getD, List.getElem?_eq_getElem hk]
    exact h _ (List.getElem_mem hk)
  · rw [List.getD_eq_getElem?_getD, List.getElem?_eq_none (by omega)]
    exact Nat.zero_le _
theorem propG_len (G : List (List Int)) : (propG G).length = G.length := rows_length _ _
theorem propG_gat (G : List (List Int)) (k : Nat) : gat (propG G) k = if k < G.length then (gat G k).filter (inR G.length) else [] := gat_rows _ _ _
theorem propG_row {G : List (List Int)} {M : Nat} (h : ∀ L ∈ G, L.length ≤ M) (k : Nat) : (gat (propG G) k).length ≤ M := by
  rw [propG_gat]
  split
  · exact Nat.le_trans (List.length_filter_le _ _) (gat_len h k)
  · exact Nat.zero_le _
theorem propG_pl (G : List (List Int)) : Pl (propG G) := fun k x hx => by
  rw [propG_gat] at hx
  split at hx
  · rw [propG_len]
    have := (List.mem_filter.1 hx).2
    unfold inR at this
    exact of_decide_eq_true this
  · cases hx
theorem rd_one (w : World) (x : Int) : Rd (w.alloc (.cells #[.int .i64 x] 3)) (fun k => (Value.slice (some ⟨w.heap.size, 0, none⟩) 1 1).ownBlock = some k) 1 (some ⟨w.heap.size, 0, none⟩) 1 (is_ [x]) :=
  Own.rd (e := 3) (size := 1) (m := 1) (c := 1) ⟨rfl, .inr ⟨w.heap.size, 1, _, rfl, heap_alloc_new w _, Nat.le_refl _, by simp only [maxLen]; omega, by simp, by simp [is_]⟩⟩
/-- what a number reaches, if it is a place -/
def reachX (G : List (List Int)) (x y : Int) : Prop := (0 ≤ x ∧ x < G.length) ∧ Led (propG G) [x] y
set_option maxRecDepth 100000 in
set_option maxHeartbeats 2000000 in
theorem reach_any (w : World) (F : Nat → Prop) (A : Option Addr) (c : Nat) (G : List (List Int)) (x : Int) (hg : RdG w F A G) (hn : G.length ≤ 1000) (hm : ∀ L ∈ G, L.length ≤ 100000) :
    Calls Try.prog 16 #[.slice A G.length c, .int .i64 x] w (RetX w (reachX G x)) := by
  by_cases h0 : 0 ≤ x
  · by_cases h1 : x < G.length
    · have hpr := proper_any w F A c G hg (by omega) hm
      have HSP : Hid (∀ (W : World) (gs : Nat) (vs : List Value), IRows w.heap.size W gs vs (propG G) → Calls Try.prog 26 #[.slice (some ⟨gs, 0, none⟩) G.length G.length, .slice (some ⟨W.heap.size, 0, none⟩) 1 1] (W.alloc (.cells #[.int .i64 x] 3)) (RetX (W.alloc (.cells #[.int .i64 x] 3)) (Led (propG G) [x]))) := fun W gs vs hI => by
        have := spread_any (W.alloc (.cells #[.int .i64 x] 3)) _ _ (some ⟨gs, 0, none⟩) (some ⟨W.heap.size, 0, none⟩) G.length 1 (propG G) [x] (hI.rdG.no ((Fr.refl _ _).alloc _)) (rd_one W x) (by rw [propG_len]; exact hn) (fun k => Nat.le_trans (propG_row hm k) (by omega)) (propG_pl G) (fun y hy => by rw [List.mem_singleton.1 hy, propG_len]; exact ⟨h0, h1⟩) (by simp)
        rw [propG_len] at this
        exact this
      have HPR := Lib.hid hpr
      have HI : Hid (0 ≤ x ∧ x < G.length) := ⟨h0, h1⟩
      clear hg hm hpr
      go_enter Try.func16, Try.ntmps16
      go_wp2_with (first
        | (go_at_call 20; refine HPR.out.mono ?_; rintro _ w1 ⟨gs, vs, rfl, hI, hf1⟩; rw [propG_len])
        | (go_at_call 26; refine (HSP.out _ _ _ hI).mono ?_; rintro _ w2 ⟨L, k1, k2, v, rfl, k3⟩))
      go_ret
      exact RetX.iff (RetX.over ⟨L, k1, k2, v, rfl, k3⟩ (hf1.alloc _)) fun y => ⟨fun h => ⟨HI.out, h⟩, fun h => h.2⟩
    · have HN : Hid (∀ y, ¬ reachX G x y) := fun y h => h1 h.1.2
      clear hg hm
      go_enter Try.func16, Try.ntmps16
      go_wp2
      go_ret
      exact RetX.none HN.out
  · have HN : Hid (∀ y, ¬ reachX G x y) := fun y h => h0 h.1.1
    clear hg hm
    go_enter Try.func16, Try.ntmps16
    go_wp2
    go_ret
    exact RetX.none HN.out
end Go.Proofs.Ytcjofakhefpfdaa
