/- The heap of names: its memory, how its methods are reached, and what they do. -/
import Derived.Test.YtcjofakhefpfdaaKit0
import Derived.Test.YtcjofakhefpfdaaLib2
import Derived.Test.YtcjofakhefpfdaaCoinsMath
import Derived.Test.YtcjofakhefpfdaaKnM5
import Derived.Deep.RegionHeld3
import Derived.Deep.DrawnRows
import Derived.Deep.QuietTactic
import Derived.BigQuiet
import Derived.Deep.RegionLaw
namespace Go.Proofs.Ytcjofakhefpfdaa
open Go.RowKit Go.My Go.My.Hp Go.Maps
set_option linter.unusedSimpArgs false
set_option linter.unusedVariables false
attribute [local go_sem ↓] Go.wp_at_zero Go.wp_at_succ

theorem elR : El Try.prog 40 3 1 8 := ⟨Try.underlying40, by
  have h : (Try.prog.info? 3).map (fun i => (i.zero, i.size, i.bytes)) = some (some (.int .i64 0), 1, 8) := by kernel_rfl
  obtain ⟨i, hi, hz, hs, hb⟩ := info_parts h
  exact ⟨i, _, hi, hz, hs, hb, rfl⟩, by omega⟩
theorem his_at (l : List Int) (k : Nat) (h : k < l.length) : (is_ l)[k]? = some (.int .i64 l[k]) := by simp [is_, h]

/-! ### how the methods are reached (206: the program's types, and 100) -/
theorem types_206 : Try.prog.types.size + 100 = 206 := by kernel_rfl
section
variable {W : World} {p : Nat} {v : Value}
theorem m_len (h : W.cell? ⟨p, 0, none⟩ = some v) : (method 206 39 (.pointer (some ⟨p, 0, none⟩)) "Len").run Try.prog W = .ok (29, v) W := by
  have h1 : (method 206 39 (.pointer (some ⟨p, 0, none⟩)) "Len").run Try.prog W = (do let r ← loadVar 40 ⟨p, 0, none⟩; pure (29, r) : Sem (FuncId × Value)).run Try.prog W := by kernel_rfl
  rw [h1]
  simp [go_sem, h]
theorem m_less (h : W.cell? ⟨p, 0, none⟩ = some v) : (method 206 39 (.pointer (some ⟨p, 0, none⟩)) "Less").run Try.prog W = .ok (73, v) W := by
  have h1 : (method 206 39 (.pointer (some ⟨p, 0, none⟩)) "Less").run Try.prog W = (do let r ← loadVar 40 ⟨p, 0, none⟩; pure (73, r) : Sem (FuncId × Value)).run Try.prog W := by kernel_rfl
  rw [h1]
  simp [go_sem, h]
theorem m_swap (h : W.cell? ⟨p, 0, none⟩ = some v) : (method 206 39 (.pointer (some ⟨p, 0, none⟩)) "Swap").run Try.prog W = .ok (76, v) W := by
  have h1 : (method 206 39 (.pointer (some ⟨p, 0, none⟩)) "Swap").run Try.prog W = (do let r ← loadVar 40 ⟨p, 0, none⟩; pure (76, r) : Sem (FuncId × Value)).run Try.prog W := by kernel_rfl
  rw [h1]
  simp [go_sem, h]
theorem m_push : (method 206 39 (.pointer (some ⟨p, 0, none⟩)) "Push").run Try.prog W = .ok (75, .pointer (some ⟨p, 0, none⟩)) W := by kernel_rfl
theorem m_pop : (method 206 39 (.pointer (some ⟨p, 0, none⟩)) "Pop").run Try.prog W = .ok (74, .pointer (some ⟨p, 0, none⟩)) W := by kernel_rfl
theorem n_len : (nilAhead 206 39 (.pointer (some ⟨p, 0, none⟩)) "Len").run Try.prog W = .ok (some false) W := by kernel_rfl
theorem n_less : (nilAhead 206 39 (.pointer (some ⟨p, 0, none⟩)) "Less").run Try.prog W = .ok (some false) W := by kernel_rfl
theorem n_swap : (nilAhead 206 39 (.pointer (some ⟨p, 0, none⟩)) "Swap").run Try.prog W = .ok (some false) W := by kernel_rfl
theorem n_push : (nilAhead 206 39 (.pointer (some ⟨p, 0, none⟩)) "Push").run Try.prog W = .ok (some false) W := by kernel_rfl
theorem n_pop : (nilAhead 206 39 (.pointer (some ⟨p, 0, none⟩)) "Pop").run Try.prog W = .ok (some false) W := by kernel_rfl
end

/-! ### its memory -/
/-- a heap at p, its row at A -/
structure HpS (B : Nat → Prop) (w : World) (p : Nat) (A : Option Addr) (c : Nat) (L : List Int) : Prop where
  lo : B p
  up : ∀ k, w.heap.size ≤ k → B k
  blk : Blk w p 40 #[.slice A L.length c]
  row : Own w 3 1 (.slice A L.length c) L.length (is_ L)
  new : ∀ k, (Value.slice A L.length c).ownBlock = some k → B k
section
variable {B : Nat → Prop} {w w' : World} {p : Nat} {A : Option Addr} {c : Nat} {L : List Int}
theorem HpS.fr {S : Nat → Prop} (h : HpS B w p A c L) (hf : Fr S w w') (h1 : ¬ S p) (h2 : ∀ k, (Value.slice A L.length c).ownBlock = some k → ¬ S k) : HpS B w' p A c L :=
  ⟨h.lo, fun k hk => h.up k (Nat.le_trans hf.size hk), h.blk.fr hf h1, h.row.fr hf h2, h.new⟩
theorem HpS.no (h : HpS B w p A c L) (hf : Fr No w w') : HpS B w' p A c L := h.fr hf (fun h => h) fun _ _ h => h
theorem HpS.cell (h : HpS B w p A c L) : w.cell? ⟨p, 0, none⟩ = some (.slice A L.length c) := by rw [h.blk.cell]; rfl
theorem HpS.le (h : HpS B w p A c L) : L.length ≤ c ∧ c ≤ maxLen := by
  obtain ⟨A', c', e, h1, h2⟩ := h.row.form
  injection e with _ _ e
  subst e
  exact ⟨h1, h2⟩
theorem HpS.item (h : HpS B w p A c L) (i : Nat) (hi : i < L.length) : ∃ g, A = some ⟨g, 0, none⟩ ∧ B g ∧ g ≠ p ∧ w.cell? ⟨g, i, none⟩ = some (.int .i64 (at_ L i)) ∧ w.frozen? ⟨g, i, none⟩ = false := by
  obtain ⟨g, c', cur, e, hg, _⟩ := h.row.formPos (by omega)
  have e' := e
  injection e with e1 _ e2
  subst e1 e2
  obtain ⟨_, _, hz⟩ := h.row.store i hi (.int .i64 0)
  obtain ⟨ad, u, he, _, hu, hc⟩ := h.row.rd.at_ hi
  injection he with he
  subst he
  rw [his_at L i hi] at hu
  injection hu with hu
  subst hu
  rw [add_zero] at hc
  refine ⟨g, rfl, h.new g rfl, fun e => ?_, ?_, hz⟩
  · subst e; exact Blk.ne_ hg h.blk (by decide) rfl
  · rw [at_lt hi]; exact hc
/-- two numbers change places -/
theorem HpS.swap {g : Nat} (h : HpS B w p (some ⟨g, 0, none⟩) c L) (i j : Nat) (hi : i < L.length) (hj : j < L.length) :
    HpS B ((w.setCell ⟨g, i, none⟩ (.int .i64 (at_ L j))).setCell ⟨g, j, none⟩ (.int .i64 (at_ L i))) p (some ⟨g, 0, none⟩) c (swl L i j) := by
  obtain ⟨g', hg, _, hgp, _⟩ := h.item i hi
  obtain rfl : g = g' := by injection hg with e; injection e
  have o1 := (h.row.store i hi (.int .i64 (at_ L j))).1
  have o2 := (o1.store j hj (.int .i64 (at_ L i))).1
  have e : ((is_ L).set i (.int .i64 (at_ L j))).set j (.int .i64 (at_ L i)) = is_ (swl L i j) := by
    unfold is_ swl; rw [List.map_set, List.map_set]
  rw [e] at o2
  have hl := swl_length L i j
  refine ⟨h.lo, fun k hk => h.up k (by rw [World.size_setCell, World.size_setCell] at hk; exact hk), ?_, ?_, ?_⟩
  · rw [hl]; exact (h.blk.far (p := ⟨g, i, none⟩) (fun e => hgp e.symm) _).far (p := ⟨g, j, none⟩) (fun e => hgp e.symm) _
  · rw [hl]; exact o2
  · rw [hl]; exact h.new
end
end Go.Proofs.Ytcjofakhefpfdaa
