/- Contracts of package disk. -/
import Derived.Test.YtjfbpnhkdlbinaaChecked
import Derived.Test.YtjfbpnhkdlbinaaLib
import Derived.Test.YtjfbpnhkdlbinaaLib2
import Derived.Test.YtjfbpnhkdlbinaaOpen
import Derived.Test.YtjfbpnhkdlbinaaKit
import Derived.Handy
import Derived.RegionCalls
namespace Go.Proofs.Ytjfbpnhkdlbinaa
open Go.RowKit Go.My
set_option linter.unusedSimpArgs false
set_option linter.unusedVariables false

/-- a disk at p, whose bytes lie in block g -/
def Dk (w : World) (p : Nat) (g : Option Nat) (cap : Nat) (b : List UInt8) (sure : Nat) (br : Bool) : Prop :=
  ∃ v, Blk w p 89 #[.int .i64 (cap : Int), v, .int .i64 (sure : Int), .bool br] ∧ Own w 5 1 v b.length (bs b) ∧ v.ownBlock = g ∧ cap ≤ 65536 ∧ b.length ≤ cap ∧ sure ≤ b.length

theorem Dk.fr {w w' : World} {p : Nat} {g : Option Nat} {cap sure : Nat} {b : List UInt8} {br : Bool} {S : Nat → Prop} (h : Dk w p g cap b sure br) (hf : Fr S w w') (hp : ¬ S p) (hg : ∀ k, g = some k → ¬ S k) : Dk w' p g cap b sure br := by
  obtain ⟨v, hb, ho, hv, r⟩ := h
  exact ⟨v, hb.fr hf hp, ho.fr hf (fun k hk => hg k (by rw [← hv]; exact hk)), hv, r⟩
theorem Dk.lt {w : World} {p : Nat} {g : Option Nat} {cap sure : Nat} {b : List UInt8} {br : Bool} (h : Dk w p g cap b sure br) : p < w.heap.size := by
  obtain ⟨v, hb, _⟩ := h
  exact hb.lt
theorem Dk.ltg {w : World} {p : Nat} {g : Option Nat} {cap sure : Nat} {b : List UInt8} {br : Bool} (h : Dk w p g cap b sure br) : ∀ k, g = some k → k < w.heap.size := by
  obtain ⟨v, hb, ho, hv, _⟩ := h
  intro k hk
  exact ho.lt k (by rw [hv]; exact hk)
theorem Dk.ne {w : World} {p : Nat} {g : Option Nat} {cap sure : Nat} {b : List UInt8} {br : Bool} (h : Dk w p g cap b sure br) : g ≠ some p := by
  obtain ⟨v, hb, ho, hv, _⟩ := h
  rw [← hv]
  exact ho.ne_ hb (by decide)

theorem broken_nil (w : World) : Calls Try.prog 50 #[.pointer none] w fun e w' => e = .returned (.bool true) ∧ w = w' := by
  go_enter Try.func50, Try.ntmps50
  go_wp2
  go_ret
  exact ⟨rfl, rfl⟩
theorem broken_at (p : Nat) (c s n : Value) (br : Bool) (w : World) (h : Blk w p 89 #[c, s, n, .bool br]) : Calls Try.prog 50 #[.pointer (some ⟨p, 0, none⟩)] w fun e w' => e = .returned (.bool br) ∧ w = w' := by
  have c3 := h.cell 3
  simp at c3
  clear h
  go_enter Try.func50, Try.ntmps50
  go_wp2
  go_ret
  exact ⟨rfl, rfl⟩
theorem room_nil (w : World) : Calls Try.prog 51 #[.pointer none] w fun e w' => e = .returned (.int .i64 0) ∧ w = w' := by
  go_enter Try.func51, Try.ntmps51
  go_wp2
  go_ret
  exact ⟨rfl, rfl⟩
theorem room_blk (p : Nat) (c : Nat) (A : Option Addr) (n k : Nat) (s b : Value) (w : World) (h : Blk w p 89 #[.int .i64 (c : Int), .slice A n k, s, b]) (hc : c ≤ 65536) (hn : n ≤ 65536) :
    Calls Try.prog 51 #[.pointer (some ⟨p, 0, none⟩)] w fun e w' => e = .returned (.int .i64 ((c : Int) - n)) ∧ ∃ n, w' = w.drewN n := by
  have c0 := h.cell 0
  have c1 := h.cell 1
  simp at c0 c1
  clear h
  go_enter Try.func51, Try.ntmps51
  go_wp2
  go_quiet (fail)
  go_wp2
  go_ret
  exact ⟨rfl, _, rfl⟩
theorem room_at (p : Nat) (g : Option Nat) (cap sure : Nat) (b : List UInt8) (br : Bool) (w : World) (h : Dk w p g cap b sure br) :
    Calls Try.prog 51 #[.pointer (some ⟨p, 0, none⟩)] w fun e w' => e = .returned (.int .i64 ((cap : Int) - b.length)) ∧ ∃ n, w' = w.drewN n := by
  obtain ⟨v, hb, ho, hv, h1, h2, h3⟩ := h
  obtain ⟨A, c, rfl, _, _⟩ := ho.form
  exact room_blk p cap A b.length c _ _ w hb h1 (by omega)
theorem sure_nil (w : World) : Calls Try.prog 46 #[.pointer none] w fun e w' => e = .returned (.int .i64 0) ∧ w = w' := by
  go_enter Try.func46, Try.ntmps46
  go_wp2
  go_ret
  exact ⟨rfl, rfl⟩
theorem sure_at (p : Nat) (g : Option Nat) (cap sure : Nat) (b : List UInt8) (br : Bool) (w : World) (h : Dk w p g cap b sure br) :
    Calls Try.prog 46 #[.pointer (some ⟨p, 0, none⟩)] w fun e w' => e = .returned (.int .i64 (sure : Int)) ∧ w = w' := by
  obtain ⟨v, hb, _⟩ := h
  have c0 := hb.cell 2
  simp at c0
  clear hb
  go_enter Try.func46, Try.ntmps46
  go_wp2
  go_ret
  exact ⟨rfl, rfl⟩

/-- handed back: v; the disk is then as told; of what was there only its own blocks have changed -/
def RetD (w : World) (p : Nat) (g : Option Nat) (v : Value) (cap : Nat) (b : List UInt8) (sure : Nat) (br : Bool) (e : Ending) (w' : World) : Prop :=
  e = .returned v ∧ ∃ g', Dk w' p g' cap b sure br ∧ Fr (At2 p g) w w' ∧ Newer w.heap.size g g'

theorem at2_set (p : Nat) (g : Option Nat) (w : World) (i : Nat) (u : Value) : Fr (At2 p g) w (w.setCell ⟨p, i, none⟩ u) := (fr_set w p i u).mono fun k _ hk => .inl hk

/-- a disk's room -/
def capOf (room : Int) : Nat := (max 0 (min room 65536)).toNat
theorem capOf_le (room : Int) : capOf room ≤ 65536 := by unfold capOf; omega

/-- handed back: a new disk -/
def RetNewD (w : World) (cap : Nat) (e : Ending) (w' : World) : Prop :=
  ∃ p, e = .returned (.pointer (some ⟨p, 0, none⟩)) ∧ Dk w' p none cap [] 0 false ∧ Fr No w w' ∧ w.heap.size ≤ p

theorem new_disk (room : Int) (w : World) (h1 : -9223372036854775808 ≤ room) (h2 : room ≤ 9223372036854775807) :
    Calls Try.prog 42 #[.int .i64 room] w (RetNewD w (capOf room)) := by
  have hfin : ∀ x : Int, x = (capOf room : Int) → RetNewD w (capOf room) (.returned (.pointer (some ⟨w.heap.size, 0, none⟩))) (w.alloc (Obj.cells #[.int .i64 x, .slice none 0 0, .int .i64 0, .bool false] 89)) := by
    rintro x rfl
    exact ⟨_, rfl, ⟨_, Blk.new w _ _, Own.nil _ _ _, rfl, capOf_le room, by simp, by simp⟩, (Fr.refl _ _).alloc _, Nat.le_refl _⟩
  have HF := Lib.hid hfin
  clear hfin
  go_enter Try.func42, Try.ntmps42
  go_wp2
  all_goals
    go_ret
    exact HF.out _ (by unfold capOf; omega)

theorem sync_down (p : Nat) (c s n : Value) (w : World) (h : Blk w p 89 #[c, s, n, .bool true]) : Calls Try.prog 54 #[.pointer (some ⟨p, 0, none⟩)] w fun e w' => e = .returned (.int .i64 14) ∧ w = w' := by
  go_enter Try.func54, Try.ntmps54
  go_wp2_with (go_at_call 50; refine (broken_at _ _ _ _ _ _ h).mono ?_; rintro e w' ⟨rfl, rfl⟩)
  go_ret
  exact ⟨rfl, rfl⟩
theorem sync_up (p : Nat) (c : Value) (A : Option Addr) (n k : Nat) (s : Value) (w : World) (h : Blk w p 89 #[c, .slice A n k, s, .bool false]) : Calls Try.prog 54 #[.pointer (some ⟨p, 0, none⟩)] w fun e w' => e = .returned (.int .i64 0) ∧ w.setCell ⟨p, 2, none⟩ (.int .i64 n) = w' := by
  have c1 := h.cell 1
  have c2 := h.cell 2
  have f2 := h.frozen 2
  simp at c1 c2
  go_enter Try.func54, Try.ntmps54
  go_wp2_with (go_at_call 50; refine (broken_at _ _ _ _ _ _ h).mono ?_; rintro e w' ⟨rfl, rfl⟩)
  go_ret
  exact ⟨rfl, rfl⟩
theorem sync_nil (w : World) : Calls Try.prog 54 #[.pointer none] w fun e w' => e = .returned (.int .i64 14) ∧ w = w' := by
  go_enter Try.func54, Try.ntmps54
  go_wp2_with (go_at_call 50; refine (broken_nil _).mono ?_; rintro e w' ⟨rfl, rfl⟩)
  go_ret
  exact ⟨rfl, rfl⟩
theorem sync_at (p : Nat) (g : Option Nat) (cap sure : Nat) (b : List UInt8) (br : Bool) (w : World) (h : Dk w p g cap b sure br) :
    Calls Try.prog 54 #[.pointer (some ⟨p, 0, none⟩)] w (RetD w p g (.int .i64 (if br then 14 else 0)) cap b (if br then sure else b.length) br) := by
  have hd := h
  obtain ⟨v, hb, ho, hv, h1, h2, h3⟩ := h
  obtain ⟨A, c, rfl, hc1, hc2⟩ := ho.form
  cases br with
  | true => exact (sync_down p _ _ _ w hb).mono fun e w' ⟨he, hw⟩ => by subst hw; exact ⟨he, g, hd, Fr.refl _ _, .inl rfl⟩
  | false =>
    refine (sync_up p _ A b.length c _ w hb).mono fun e w' ⟨he, hw⟩ => ?_
    subst hw
    exact ⟨he, g, ⟨_, hb.set_ 2 _, ho.setCell (by rw [hv]; exact hd.ne) _, hv, h1, h2, Nat.le_refl _⟩, at2_set p g w 2 _, .inl rfl⟩

theorem break_nil (w : World) : Calls Try.prog 48 #[.pointer none] w fun e w' => e = .returned (.tuple #[]) ∧ w = w' := by
  go_enter Try.func48, Try.ntmps48
  go_wp2
  go_returns
  exact ⟨rfl, rfl⟩
theorem break_blk (p : Nat) (c s n b: Value) (w : World) (h : Blk w p 89 #[c, s, n, b]) : Calls Try.prog 48 #[.pointer (some ⟨p, 0, none⟩)] w fun e w' => e = .returned (.tuple #[]) ∧ w.setCell ⟨p, 3, none⟩ (.bool true) = w' := by
  have c1 := h.cell 3
  have f2 := h.frozen 3
  simp at c1
  clear h
  go_enter Try.func48, Try.ntmps48
  go_wp2
  go_returns
  exact ⟨rfl, rfl⟩
theorem break_at (p : Nat) (g : Option Nat) (cap sure : Nat) (b : List UInt8) (br : Bool) (w : World) (h : Dk w p g cap b sure br) :
    Calls Try.prog 48 #[.pointer (some ⟨p, 0, none⟩)] w (RetD w p g (.tuple #[]) cap b sure true) := by
  have hd := h
  obtain ⟨v, hb, ho, hv, h1, h2, h3⟩ := h
  refine (break_blk p _ _ _ _ w hb).mono fun e w' ⟨he, hw⟩ => ?_
  subst hw
  exact ⟨he, g, ⟨_, hb.set_ 3 _, ho.setCell (by rw [hv]; exact hd.ne) _, hv, h1, h2, h3⟩, at2_set p g w 3 _, .inl rfl⟩

/-- a row of the call's own, cut to its first n elements, without room behind -/
theorem own_cut {w : World} {e : TypeId} {m n c : Nat} {A : Option Addr} {xs : List Value} (h : Own w e 1 (.slice A m c) m xs) (hn : n ≤ m) : Own w e 1 (.slice A n n) n (xs.take n) := by
  have hl := h.1
  refine ⟨by simp; omega, ?_⟩
  rcases h.2 with ⟨hv, hm⟩ | ⟨g, cap, cur, hv, hg, h1, h2, h3, h4⟩
  · injection hv with hA
    subst hA
    have : n = 0 := by omega
    subst this
    exact .inl ⟨rfl, rfl⟩
  · injection hv with hA _ hc
    subst hA hc
    refine .inr ⟨g, n, cur, rfl, hg, Nat.le_refl _, by simp only [maxLen] at h2 ⊢; omega, by omega, ?_⟩
    rw [← h4, Nat.mul_one, Nat.mul_one, List.take_take, Nat.min_eq_left hn]

theorem keep_blk (p : Nat) (c : Value) (A : Option Addr) (m k n : Nat) (s b : Value) (w : World) (h : Blk w p 89 #[c, .slice A m k, s, b]) (hn : n ≤ k) (hk : k ≤ 9223372036854775807) :
    Calls Try.prog 65 #[.pointer (some ⟨p, 0, none⟩), .int .i64 (n : Int)] w fun e w' => e = .returned (.tuple #[]) ∧ (w.setCell ⟨p, 1, none⟩ (.slice A n n)).setCell ⟨p, 2, none⟩ (.int .i64 n) = w' := by
  have c1 := h.cell 1
  have c2 := h.cell 2
  have f1 := h.frozen 1
  have f2 := h.frozen 2
  simp at c1 c2
  clear h
  go_enter Try.func65, Try.ntmps65
  go_wp2
  all_goals
    go_returns
    first
      | exact ⟨rfl, rfl⟩
      | (refine ⟨rfl, ?_⟩; simp)
theorem keep_at (p : Nat) (g : Option Nat) (cap sure n : Nat) (b : List UInt8) (br : Bool) (w : World) (h : Dk w p g cap b sure br) (hn : n ≤ b.length) :
    Calls Try.prog 65 #[.pointer (some ⟨p, 0, none⟩), .int .i64 (n : Int)] w (RetD w p g (.tuple #[]) cap (b.take n) n br) := by
  have hd := h
  obtain ⟨v, hb, ho, hv, h1, h2, h3⟩ := h
  obtain ⟨A, c, rfl, hc1, hc2⟩ := ho.form
  refine (keep_blk p _ A b.length c n _ _ w hb (by omega) (by simp only [maxLen] at hc2; omega)).mono fun e w' ⟨he, hw⟩ => ?_
  subst hw
  have hlen : (b.take n).length = n := by simp; omega
  have hown : Own w 5 1 (.slice A n n) (b.take n).length (bs (b.take n)) := by
    have := own_cut ho hn
    rwa [hlen, bs_take]
  have hg : (Value.slice A n n).ownBlock = g := by rw [← hv]; cases A <;> rfl
  refine ⟨he, g, ⟨_, (hb.set_ 1 _).set_ 2 _, (hown.setCell (by rw [hg]; exact hd.ne) _).setCell (by rw [hg]; exact hd.ne) _, hg, h1, by omega, by omega⟩, (at2_set p g w 1 _).trans (at2_set p g _ 2 _), .inl rfl⟩
end Go.Proofs.Ytjfbpnhkdlbinaa
