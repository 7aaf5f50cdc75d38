/- Ahead of Ids; what it leaves of the world. Numbers as bytes: the plain mathematics of package pack. Of no program. Bytes in rows: what walks of package pack share. Contracts of package pack. slices.Concat over bytes; lists of lists of bytes in memory. Contracts of package order: Told. -/
import Derived.Test.YtnphncemghfkbaaGreatQ10
import Derived.Sort.Grow
import Derived.StillTailTactics
import Derived.Test.YtnphncemghfkbaaGreatQ01
import Derived.Test.YtnphncemghfkbaaGreatChecked
import Derived.Handy
import Derived.Laws.BitsAllLaws
import Derived.Laws.BitsLemmas
import Derived.Test.YtnphncemghfkbaaGreatQ04
import Derived.Deep.DrawnRows
import Derived.Test.YtnphncemghfkbaaGreatQ06
import Derived.Deep.RegionHeld3
namespace Go.My
open Go Go.RowKit
theorem wp_region_tailO {P : Program} {id : Nat} {Q : Exit → Act → World → Prop} {a : Act} {w : World} {l : List Oper} (n : Nat) (hm : P.follows .mixedOrders = true) (hB : Region.lexTailB .any l.toArray n = true)
    (h : ∀ w', w' = w.drew → wpStill P l.toArray w' (fun a' => wpList P l.toArray Q (l.drop n) a' w') (l.take n) a) : (Code.region id l.toArray true).wp P Q a w :=
  wp_region_still_tail n hm hB (h _ rfl)
end Go.My
namespace Go.Proofs.YtnphncemghfkbaaGreat
open Go.RowKit Go.My Go.Maps
set_option linter.unusedSimpArgs false
set_option linter.unusedVariables false
attribute [local go_sem ↓] Go.wp_at_zero Go.wp_at_succ

theorem nanI (n : Int) (w : World) : Calls Tryz.prog 138 #[.int .i64 n] w fun e w' => e = .returned (.bool false) ∧ w' = w := by
  go_enter Tryz.func138, Tryz.ntmps138
  go_wp2
  go_ret
  exact ⟨by simp, rfl⟩
def cmpI (x y : Int) : Int := if x < y then -1 else if y < x then 1 else 0
theorem compareI (x y : Int) (w : World) : Calls Tryz.prog 105 #[.int .i64 x, .int .i64 y] w fun e w' => e = .returned (.int .i64 (cmpI x y)) ∧ w' = w := by
  go_enter Tryz.func105, Tryz.ntmps105
  go_wp2_with (go_at_call 138; refine (nanI _ _).mono ?_; rintro e w' ⟨rfl, hw⟩; rw [hw])
  all_goals (go_ret; refine ⟨?_, rfl⟩; unfold cmpI; (repeat' split) <;> first | rfl | (exfalso; omega))
def orI (x y : Int) : Int := if x = 0 then y else x
theorem orI_any (g : Nat) (x y : Int) (w : World) (h0 : w.cell? ⟨g, 0, none⟩ = some (.int .i64 x)) (h1 : w.cell? ⟨g, 1, none⟩ = some (.int .i64 y)) : Calls Tryz.prog 104 #[.slice (some ⟨g, 0, none⟩) 2 2] w fun e w' => e = .returned (.int .i64 (orI x y)) ∧ w' = w := by
  go_enter Tryz.func104, Tryz.ntmps104
  by_cases hx : x = 0
  · subst hx
    by_cases hy : y = 0
    · subst hy
      go_wp2
      refine wp_loop_rounds 3 ?_
      rw [rounds_succ]
      go_wp2
      rw [rounds_succ]
      go_wp2
      rw [rounds_succ]
      go_wp2
      go_ret
      exact ⟨rfl, rfl⟩
    · go_wp2
      refine wp_loop_rounds 2 ?_
      rw [rounds_succ]
      go_wp2
      rw [rounds_succ]
      go_wp2
      go_ret
      exact ⟨rfl, rfl⟩
  · go_wp2
    refine wp_loop_rounds 1 ?_
    rw [rounds_succ]
    go_wp2
    go_ret
    exact ⟨by rw [show orI x y = x from if_neg hx]; rfl, rfl⟩
def aheadI (a b c d : Int) : Bool := decide (a < c ∨ (a = c ∧ b < d))
theorem ahead_or (a b c d : Int) : decide (orI (cmpI a c) (cmpI b d) < 0) = aheadI a b c d := by
  unfold orI cmpI aheadI
  (repeat' split) <;> simp <;> omega
set_option maxRecDepth 100000 in
set_option maxHeartbeats 2000000 in
theorem oahead_grow (a b c d : Int) (W : World) : Calls Tryz.prog 71 #[.agg #[.int .i64 a, .int .i64 b], .agg #[.int .i64 c, .int .i64 d]] W fun e w' => e = .returned (.bool (aheadI a b c d)) ∧ ∃ q os', w' = Go.Sort.grow (W.drewN q) os' := by
  have hS := Lib.hid (fun W => compareI a c W)
  have hI := Lib.hid (fun W => compareI b d W)
  have hO := Lib.hid (fun g W => orI_any g (cmpI a c) (cmpI b d) W)
  have HR : Hid (decide (orI (cmpI a c) (cmpI b d) < 0) = aheadI a b c d) := ahead_or a b c d
  generalize aheadI a b c d = r at *
  generalize orI (cmpI a c) (cmpI b d) = z at *
  generalize cmpI a c = u at *
  generalize cmpI b d = v at *
  go_enter Tryz.func71, Tryz.ntmps71
  go_wp2
  refine wp_region_tailO 10 (by kernel_rfl) (by kernel_rfl) fun w6 hw6 => ?_
  have hb0 : Blk w6 W.heap.size 44 #[.int .i64 a, .int .i64 b] := by
    rw [hw6]
    exact (Blk.new W _ _).fr (((Fr.refl No _).alloc _).drew) (fun h => h)
  have hb1 : Blk w6 (W.heap.size + 1) 44 #[.int .i64 c, .int .i64 d] := by
    rw [hw6]
    have h := Blk.new (W.alloc (.cells #[.int .i64 a, .int .i64 b] 44)) 44 #[.int .i64 c, .int .i64 d]
    rw [World.size_alloc] at h
    exact h.fr ((Fr.refl No _).drew) (fun h => h)
  have x0 : w6.cell? ⟨W.heap.size, 0, none⟩ = some (.int .i64 a) := hb0.cell 0
  have x1 : w6.cell? ⟨W.heap.size, 1, none⟩ = some (.int .i64 b) := hb0.cell 1
  have y0 : w6.cell? ⟨W.heap.size + 1, 0, none⟩ = some (.int .i64 c) := hb1.cell 0
  have y1 : w6.cell? ⟨W.heap.size + 1, 1, none⟩ = some (.int .i64 d) := hb1.cell 1
  have HC := Lib.hid (hO.out w6.heap.size (w6.alloc (.cells #[.int .i64 u, .int .i64 v] 3)) ((Blk.new w6 3 #[.int .i64 u, .int .i64 v]).cell 0) ((Blk.new w6 3 #[.int .i64 u, .int .i64 v]).cell 1))
  have HW := Lib.hid hw6
  clear hw6 hb0 hb1
  simp only [List.take_succ_cons, List.take_zero, List.drop_succ_cons, List.drop_zero]
  repeat still_step
  still_call (hS.out w6)
  repeat still_step
  still_call (hI.out w6)
  refine wpStill_nil ?_
  go_wp2_with (go_at_call 104; refine HC.out.mono ?_; rintro e w7 ⟨rfl, rfl⟩)
  go_ret
  refine ⟨by rw [← HR.out]; simp, 1, #[.cells #[.int .i64 a, .int .i64 b] 44, .cells #[.int .i64 c, .int .i64 d] 44, .cells #[.int .i64 u, .int .i64 v] 3], ?_⟩
  rw [HW.out]
  rw [Go.Sort.alloc_eq_grow, Go.Sort.alloc_eq_grow, Go.Sort.alloc_eq_grow, Go.Sort.grow_grow]
  rfl
theorem fr_grow (W : World) (q : Nat) (os : Array Obj) : Fr No W (Go.Sort.grow (W.drewN q) os) := by
  refine ⟨rfl, rfl, rfl, ?_, fun k hk _ => ?_⟩
  · show W.heap.size ≤ (W.heap ++ os).size
    rw [Array.size_append]; omega
  · show (W.heap ++ os)[k]? = _
    rw [Array.getElem?_append_left hk]
theorem oahead_any (a b c d : Int) (W : World) : Calls Tryz.prog 71 #[.agg #[.int .i64 a, .int .i64 b], .agg #[.int .i64 c, .int .i64 d]] W fun e w' => e = .returned (.bool (aheadI a b c d)) ∧ Fr No W w' := by
  refine (oahead_grow a b c d W).mono ?_
  rintro e w' ⟨h, q, os, rfl⟩
  exact ⟨h, fr_grow W q os⟩
set_option maxRecDepth 100000 in
theorem refaheadI_any (a b c d : Int) (W : World) : Calls Tryz.prog 43 #[.agg #[.int .i64 a, .int .i64 b], .agg #[.int .i64 c, .int .i64 d]] W fun e w' => e = .returned (.bool (aheadI a b c d)) ∧ Fr No W w' := by
  have hb0 := (Blk.new W 44 #[.int .i64 a, .int .i64 b]).alloc (.cells #[.int .i64 c, .int .i64 d] 44)
  have hb1 := Blk.new (W.alloc (.cells #[.int .i64 a, .int .i64 b] 44)) 44 #[.int .i64 c, .int .i64 d]
  rw [World.size_alloc] at hb1
  have hf : Fr No W ((W.alloc (.cells #[.int .i64 a, .int .i64 b] 44)).alloc (.cells #[.int .i64 c, .int .i64 d] 44)) := ((Fr.refl _ _).alloc _).alloc _
  have HC : (a < c ∧ aheadI a b c d = true) ∨ (¬ a < c ∧ a = c ∧ aheadI a b c d = decide (b < d)) ∨ (¬ a < c ∧ a ≠ c ∧ aheadI a b c d = false) := by
    unfold aheadI
    by_cases h1 : a < c
    · left; exact ⟨h1, by simp [h1]⟩
    · by_cases h2 : a = c
      · right; left; exact ⟨h1, h2, by simp [h2]⟩
      · right; right; exact ⟨h1, h2, by simp [h1, h2]⟩
  go_enter Tryz.func43, Tryz.ntmps43
  go_upto_region 1 with (fail)
  generalize ((W.alloc (.cells #[.int .i64 a, .int .i64 b] 44)).alloc (.cells #[.int .i64 c, .int .i64 d] 44)) = w2 at *
  have x0 := hb0.cell 0
  have x1 := hb0.cell 1
  have y0 := hb1.cell 0
  have y1 := hb1.cell 1
  simp only [List.getElem?_toArray, List.getElem?_cons_zero, List.getElem?_cons_succ] at x0 x1 y0 y1
  have HF := Lib.hid hf
  clear hb0 hb1 hf
  rcases HC with ⟨h1, e⟩ | ⟨h1, h2, e⟩ | ⟨h1, h2, e⟩
  all_goals
    try subst h2
    have HE := Lib.hid e
    clear e
    go_wp2
    go_ret
    exact ⟨by rw [HE.out]; try rfl, HF.out⟩
end Go.Proofs.YtnphncemghfkbaaGreat

set_option linter.unusedSimpArgs false
set_option linter.unusedVariables false
namespace Go.My

/-- the sign as the lowest bit -/
def zig (x : Int) : Nat := if 0 ≤ x then (2 * x).toNat else (-2 * x - 1).toNat
def zag (m : Nat) : Int := if m % 2 = 0 then (m / 2 : Nat) else -((m / 2 : Nat) : Int) - 1
theorem zag_zig (x : Int) : zag (zig x) = x := by unfold zag zig; split <;> split <;> omega
theorem zig_zag (m : Nat) : zig (zag m) = m := by unfold zag zig; split <;> split <;> omega
theorem zig_lt (x : Int) (h1 : -9223372036854775808 ≤ x) (h2 : x ≤ 9223372036854775807) : zig x < 18446744073709551616 := by unfold zig; split <;> omega
theorem zag_bd (m : Nat) (h : m < 18446744073709551616) : -9223372036854775808 ≤ zag m ∧ zag m ≤ 9223372036854775807 := by unfold zag; split <;> omega

/-- seven bits a byte, the lowest first; at most f + 1 bytes -/
def encF : Nat → Nat → List UInt8
  | 0, m => [UInt8.ofNat m]
  | f + 1, m => if m < 128 then [UInt8.ofNat m] else UInt8.ofNat (m % 128 + 128) :: encF f (m / 128)
def enc (m : Nat) : List UInt8 := encF 9 m

theorem encF_length_pos (f m : Nat) : 0 < (encF f m).length := by
  cases f with
  | zero => simp [encF]
  | succ f => unfold encF; split <;> simp
theorem encF_length_le (f : Nat) : ∀ m, (encF f m).length ≤ f + 1 := by
  induction f with
  | zero => intro m; simp [encF]
  | succ f ih =>
    intro m
    unfold encF
    split
    · simp
    · simp; exact ih _
theorem enc_length_le (m : Nat) : (enc m).length ≤ 10 := encF_length_le 9 m
theorem enc_length_pos (m : Nat) : 0 < (enc m).length := encF_length_pos 9 m

/-- what the bytes begin with: the number, its size, the error -/
def decF : Nat → Nat → List UInt8 → Nat × Nat × Nat
  | _, _, [] => (0, 0, 4)
  | i, m, c :: l =>
    if 10 ≤ i then (0, 0, 3)
    else if 128 ≤ c.toNat then decF (i + 1) (m + (c.toNat - 128) * 128 ^ i) l
    else if (i = 9 ∧ 1 < c.toNat) ∨ (c.toNat = 0 ∧ 0 < i) then (0, 0, 3)
    else (m + c.toNat * 128 ^ i, i + 1, 0)
def dec (l : List UInt8) : Nat × Nat × Nat := decF 0 0 l

theorem decF_ten (a b : Nat) (l : List UInt8) : decF 10 a l = decF 10 b l := by cases l <;> simp [decF]

theorem ofNat_toNat (n : Nat) (h : n < 256) : (UInt8.ofNat n).toNat = n := by simp; omega

theorem pow_step (i : Nat) : (128 : Nat) ^ (i + 1) = 128 * 128 ^ i := by rw [Nat.pow_succ, Nat.mul_comm]

theorem decF_encF (f : Nat) : ∀ (i a m : Nat) (rest : List UInt8), i + f = 9 → m * 128 ^ i < 18446744073709551616 → (0 < i → 0 < m) →
    decF i a (encF f m ++ rest) = (a + m * 128 ^ i, i + (encF f m).length, 0) := by
  induction f with
  | zero =>
    intro i a m rest hi hm hp
    obtain rfl : i = 9 := by omega
    have h9 : (128 : Nat) ^ 9 = 9223372036854775808 := by decide
    rw [h9] at hm
    have hm2 : m < 2 := by omega
    have ht := ofNat_toNat m (by omega)
    have hp' := hp (by omega)
    simp only [encF, List.cons_append, List.nil_append, decF, ht, List.length_singleton]
    rw [if_neg (by omega), if_neg (by omega), if_neg (by omega)]
  | succ f ih =>
    intro i a m rest hi hm hp
    unfold encF
    split
    · rename_i hlt
      have ht := ofNat_toNat m (by omega)
      have hp' := hp
      simp only [List.cons_append, List.nil_append, decF, ht, List.length_singleton]
      rw [if_neg (by omega), if_neg (by omega), if_neg (by omega)]
    · rename_i hge
      have ht := ofNat_toNat (m % 128 + 128) (by omega)
      have hd : m / 128 * 128 ^ (i + 1) + m % 128 * 128 ^ i = m * 128 ^ i := by
        rw [pow_step, ← Nat.mul_assoc, ← Nat.add_mul]
        congr 1
        omega
      simp only [List.cons_append, decF, ht]
      rw [if_neg (by omega), if_pos (by omega), ih (i + 1) _ (m / 128) rest (by omega) (by omega) (fun _ => by omega)]
      simp only [List.length_cons, Nat.add_sub_cancel, Prod.mk.injEq]
      refine ⟨by omega, by omega, trivial⟩

theorem dec_enc (m : Nat) (rest : List UInt8) (h : m < 18446744073709551616) : dec (enc m ++ rest) = (m, (enc m).length, 0) := by
  have := decF_encF 9 0 0 m rest rfl (by simpa using h) (by omega)
  simpa [dec, enc] using this

theorem decF_torn (f : Nat) : ∀ (i a m k : Nat), i + f = 9 → k < (encF f m).length → decF i a ((encF f m).take k) = (0, 0, 4) := by
  induction f with
  | zero =>
    intro i a m k hi hk
    simp only [encF, List.length_singleton] at hk
    obtain rfl : k = 0 := by omega
    simp [decF]
  | succ f ih =>
    intro i a m k hi hk
    unfold encF at hk ⊢
    split at hk
    · rename_i h1
      simp only [List.length_singleton] at hk
      obtain rfl : k = 0 := by omega
      simp [decF]
    · rename_i h1
      rw [if_neg h1]
      cases k with
      | zero => simp [decF]
      | succ k =>
        have ht := ofNat_toNat (m % 128 + 128) (by omega)
        simp only [List.length_cons] at hk
        simp only [List.take_succ_cons, decF, ht]
        rw [if_neg (by omega), if_pos (by omega), ih (i + 1) _ _ k (by omega) (by omega)]
theorem dec_torn (m k : Nat) (h : k < (enc m).length) : dec ((enc m).take k) = (0, 0, 4) := decF_torn 9 0 0 m k rfl h

theorem decF_only (f : Nat) : ∀ (i a : Nat) (l : List UInt8) (M n : Nat), i + f = 9 → decF i a l = (M, n, 0) →
    ∃ m, M = a + m * 128 ^ i ∧ i < n ∧ n - i ≤ l.length ∧ l.take (n - i) = encF f m ∧ m * 128 ^ i < 18446744073709551616 ∧ (0 < i → 0 < m) := by
  induction f with
  | zero =>
    intro i a l M n hi h
    obtain rfl : i = 9 := by omega
    have h9 : (128 : Nat) ^ 9 = 9223372036854775808 := by decide
    cases l with
    | nil => simp [decF] at h
    | cons c l =>
      simp only [decF] at h
      rw [if_neg (by omega)] at h
      split at h
      · cases l with
        | nil => simp [decF] at h
        | cons d l => simp [decF] at h
      · split at h
        · simp at h
        · rename_i hc hn
          simp only [Prod.mk.injEq, and_true] at h
          obtain ⟨rfl, rfl⟩ := h
          have hn1 : ¬ 1 < c.toNat := fun h1 => hn (.inl ⟨by trivial, h1⟩)
          have hn2 : ¬ c.toNat = 0 := fun h1 => hn (.inr ⟨h1, by omega⟩)
          refine ⟨c.toNat, rfl, by omega, by simp, ?_, by rw [h9]; omega, fun _ => by omega⟩
          simp [encF]
  | succ f ih =>
    intro i a l M n hi h
    cases l with
    | nil => simp [decF] at h
    | cons c l =>
      simp only [decF] at h
      rw [if_neg (by omega)] at h
      split at h
      · rename_i hc
        obtain ⟨m, hM, hlt, hle, htk, hb, hp⟩ := ih (i + 1) _ l M n (by omega) h
        have hp' := hp (by omega)
        have hcl : c.toNat < 256 := c.toNat_lt
        have hd : (m * 128 + (c.toNat - 128)) * 128 ^ i = m * 128 ^ (i + 1) + (c.toNat - 128) * 128 ^ i := by
          rw [pow_step, Nat.add_mul, Nat.mul_assoc]
        refine ⟨m * 128 + (c.toNat - 128), by omega, by omega, by simp; omega, ?_, ?_, fun _ => by omega⟩
        · obtain ⟨j, rfl⟩ : ∃ j, n = i + 1 + j := ⟨n - (i + 1), by omega⟩
          have e1 : i + 1 + j - i = j + 1 := by omega
          have e2 : i + 1 + j - (i + 1) = j := by omega
          rw [e2] at htk
          rw [e1, List.take_succ_cons, htk]
          rw [encF, if_neg (by omega)]
          have e3 : (m * 128 + (c.toNat - 128)) % 128 + 128 = c.toNat := by omega
          have e4 : (m * 128 + (c.toNat - 128)) / 128 = m := by omega
          rw [e3, e4]
          simp
        · rw [hd]
          have hlt2 : (c.toNat - 128) * 128 ^ i < 128 ^ (i + 1) := by
            rw [pow_step]
            exact Nat.mul_lt_mul_of_pos_right (by omega) (Nat.pow_pos (by omega))
          -- a multiple of 128^(i+1) below 2^64 leaves room for less than 128^(i+1)
          have hpow : (128 : Nat) ^ (i + 1) ∣ 18446744073709551616 := by
            have : (18446744073709551616 : Nat) = 2 ^ 64 := by decide
            rw [this, show (128 : Nat) = 2 ^ 7 from by decide, ← Nat.pow_mul]
            exact Nat.pow_dvd_pow 2 (by omega)
          obtain ⟨q, hq⟩ := hpow
          rw [hq] at hb ⊢
          have hmq : m < q := by
            rw [Nat.mul_comm m] at hb
            exact Nat.lt_of_mul_lt_mul_left hb
          calc m * 128 ^ (i + 1) + (c.toNat - 128) * 128 ^ i < m * 128 ^ (i + 1) + 128 ^ (i + 1) := by omega
            _ = (m + 1) * 128 ^ (i + 1) := by rw [Nat.add_mul, Nat.one_mul]
            _ ≤ q * 128 ^ (i + 1) := Nat.mul_le_mul_right _ hmq
            _ = 128 ^ (i + 1) * q := Nat.mul_comm _ _
      · split at h
        · simp at h
        · rename_i hc hn
          simp only [Prod.mk.injEq, and_true] at h
          obtain ⟨rfl, rfl⟩ := h
          have hcl : c.toNat < 128 := by omega
          refine ⟨c.toNat, rfl, by omega, by simp, ?_, ?_, fun h0 => by omega⟩
          · have e1 : i + 1 - i = 1 := by omega
            rw [e1]
            unfold encF
            rw [if_pos hcl]
            simp
          · have : (128 : Nat) ^ i ≤ 128 ^ 8 := Nat.pow_le_pow_right (by omega) (by omega)
            have h8 : (128 : Nat) ^ 8 = 72057594037927936 := by decide
            have : c.toNat * 128 ^ i ≤ 127 * 72057594037927936 := Nat.mul_le_mul (by omega) (by omega)
            omega

theorem dec_only (l : List UInt8) (M n : Nat) (h : dec l = (M, n, 0)) : 0 < n ∧ n ≤ l.length ∧ l.take n = enc M ∧ M < 18446744073709551616 := by
  obtain ⟨m, hM, h1, h2, h3, h4, _⟩ := decF_only 9 0 0 l M n rfl h
  simp only [Nat.pow_zero, Nat.mul_one, Nat.zero_add] at hM h4
  subst hM
  exact ⟨h1, by simpa using h2, by simpa [enc] using h3, h4⟩

/-- an error tells nothing else -/
theorem decF_err (l : List UInt8) : ∀ i a, (decF i a l).2.2 = 0 ∨ ((decF i a l).2.2 = 3 ∨ (decF i a l).2.2 = 4) ∧ (decF i a l).1 = 0 ∧ (decF i a l).2.1 = 0 := by
  induction l with
  | nil => intro i a; simp [decF]
  | cons c l ih =>
    intro i a
    simp only [decF]
    split
    · simp
    · split
      · exact ih _ _
      · split <;> simp
theorem dec_err (l : List UInt8) : (dec l).2.2 = 0 ∨ ((dec l).2.2 = 3 ∨ (dec l).2.2 = 4) ∧ (dec l).1 = 0 ∧ (dec l).2.1 = 0 := decF_err l 0 0
theorem dec_err_lt (l : List UInt8) : (dec l).2.2 < 5 := by rcases dec_err l with h | ⟨h | h, _⟩ <;> omega
theorem dec_le (l : List UInt8) : (dec l).2.1 ≤ l.length := by
  rcases dec_err l with h | ⟨_, _, h⟩
  · obtain ⟨M, n, e⟩ : ∃ M n, dec l = (M, n, 0) := ⟨(dec l).1, (dec l).2.1, by rw [← h]⟩
    rw [e]
    exact (dec_only l M n e).2.1
  · omega
theorem dec_lt (l : List UInt8) : (dec l).1 < 18446744073709551616 := by
  rcases dec_err l with h | ⟨_, h, _⟩
  · obtain ⟨M, n, e⟩ : ∃ M n, dec l = (M, n, 0) := ⟨(dec l).1, (dec l).2.1, by rw [← h]⟩
    rw [e]
    exact (dec_only l M n e).2.2.2
  · omega
end Go.My

namespace Go.Proofs.YtnphncemghfkbaaGreat
open Go.RowKit Go.My
set_option linter.unusedSimpArgs false
set_option linter.unusedVariables false

theorem elB : El Tryz.prog 25 5 1 1 := ⟨Tryz.underlying25, by
  have h : (Tryz.prog.info? 5).map (fun i => (i.zero, i.size, i.bytes)) = some (some (.int .u8 0), 1, 1) := by kernel_rfl
  obtain ⟨i, hi, hz, hs, hb⟩ := info_parts h
  exact ⟨i, _, hi, hz, hs, hb, rfl⟩, by omega⟩

theorem srcOf {v : Value} {n : Nat} {l : List UInt8} {w : World} (h : Own w 5 1 v n (bs l)) : Src Tryz.prog w 1 25 v n (bs l) := by
  obtain ⟨A, c, rfl, _, _⟩ := h.form
  exact Src.of_rd h.rd (bs_one l) Tryz.underlying25

end Go.Proofs.YtnphncemghfkbaaGreat

set_option linter.unusedSimpArgs false
set_option linter.unusedVariables false
namespace Go.Proofs.YtnphncemghfkbaaGreat
open Go.RowKit Go.My

theorem wrapu (x : Int) : IntKind.u64.wrap x = x % 18446744073709551616 := IntKind.wrap_u64 x

theorem zig_eq (x : Int) (h1 : -9223372036854775808 ≤ x) (h2 : x ≤ 9223372036854775807) :
    bits .xor .u64 (IntKind.u64.wrap (IntKind.u64.wrap x * 2)) (IntKind.u64.wrap (x / 9223372036854775808)) = (zig x : Int) := by
  simp only [wrapu]
  unfold zig
  by_cases h : 0 ≤ x
  · rw [if_pos h]
    have e1 : x / 9223372036854775808 = 0 := by omega
    rw [e1]
    have e2 : (x % 18446744073709551616 * 2) % 18446744073709551616 = ((2 * x).toNat : Int) := by omega
    rw [e2, Int.zero_emod]
    show IntKind.u64.wrap ((BitVec.ofInt 64 ((2 * x).toNat : Int) ^^^ BitVec.ofInt 64 0).toNat : Int) = _
    rw [BitVec.ofInt_natCast]
    simp [IntKind.wrap_u64]
    omega
  · rw [if_neg h]
    have e1 : x / 9223372036854775808 = -1 := by omega
    rw [e1]
    have e2 : (x % 18446744073709551616 * 2) % 18446744073709551616 = ((18446744073709551616 + 2 * x).toNat : Int) := by omega
    have e3 : (-1 : Int) % 18446744073709551616 = ((18446744073709551615 : Nat) : Int) := by omega
    rw [e2, e3]
    show IntKind.u64.wrap ((BitVec.ofInt 64 ((18446744073709551616 + 2 * x).toNat : Int) ^^^ BitVec.ofInt 64 ((18446744073709551615 : Nat) : Int)).toNat : Int) = _
    have e4 : BitVec.ofInt 64 ((18446744073709551615 : Nat) : Int) = BitVec.allOnes 64 := by rw [BitVec.ofInt_natCast]; rfl
    rw [e4, BitVec.xor_allOnes, BitVec.ofInt_natCast, BitVec.toNat_not, BitVec.toNat_ofNat, wrapu]
    omega

theorem or_more (m : Nat) : bits .or .u8 ((m : Int) % 256) 128 = ((m % 128 + 128 : Nat) : Int) := by
  show IntKind.u8.wrap ((BitVec.ofInt 8 ((m : Int) % 256) ||| BitVec.ofInt 8 128).toNat : Int) = _
  have e : (m : Int) % 256 = ((m % 256 : Nat) : Int) := by omega
  rw [e, BitVec.ofInt_natCast]
  have hx : (BitVec.ofNat 8 (m % 256) ||| BitVec.ofInt 8 128).toNat = m % 128 + 128 := by
    have h : ∀ k : Fin 256, (BitVec.ofNat 8 k.val ||| BitVec.ofInt 8 128).toNat = k.val % 128 + 128 := by decide +kernel
    have := h ⟨m % 256, by omega⟩
    simp only at this
    rw [this]
    omega
  rw [hx, IntKind.wrap_u8]
  omega

/-- number's loop: what is still to come is m, f bytes more at most behind the next -/
def NumRel (w : World) (g0 : Option Nat) (n : Nat) (xs : List Value) (m0 : Nat) (v u : Value) (wr : World) : Prop :=
  ∃ (pre : List UInt8) (m f : Nat), u = .int .u64 (m : Int) ∧ m < 2 * 128 ^ f ∧ encF 9 m0 = pre ++ encF f m ∧ pre.length + f = 9 ∧
    Own wr 5 1 v (n + pre.length) (xs ++ bs pre) ∧ Fr (AtO g0) w wr ∧ Newer w.heap.size g0 v.ownBlock

theorem bs_of_nat (k : Nat) (h : k < 256) : bs [UInt8.ofNat k] = [.int .u8 (k : Int)] := by
  simp [bs]
  omega

set_option maxHeartbeats 400000 in
theorem number_any (v : Value) (n : Nat) (xs : List Value) (x : Int) (w : World) (hown : Own w 5 1 v n xs) (h1 : -9223372036854775808 ≤ x) (h2 : x ≤ 9223372036854775807) (hn : n ≤ 140737488355000) :
    Calls Tryz.prog 88 #[v, .int .i64 x] w (RetOwn w 5 1 v.ownBlock (n + (enc (zig x)).length) (xs ++ bs (enc (zig x)))) := by
  have hz := zig_eq x h1 h2
  have hzl := zig_lt x h1 h2
  generalize zig x = m0 at hz hzl ⊢
  have hstart : NumRel w v.ownBlock n xs m0 v (.int .u64 (m0 : Int)) w := ⟨[], m0, 9, rfl, by simpa using hzl, by simp, by simp, by simpa [bs] using hown, Fr.refl _ _, .inl rfl⟩
  have HF : Hid (enc m0 = encF 9 m0) := rfl
  generalize enc m0 = res at HF ⊢
  have HN := Lib.hid hn
  clear hown hzl hn
  go_enter Tryz.func88, Tryz.ntmps88
  go_wp2
  go_loopw [0, 5] (fun a b wr => NumRel w v.ownBlock n xs m0 a b wr) (fun _ b _ => (intOf b).toNat)
  case atStart => exact hstart
  case round =>
    clear hstart hz
    obtain ⟨pre, m, f, rfl, hm, he, hf, hown, hfr, hnew⟩ := hrel
    have ho := or_more m
    have HM := Lib.hid hm
    have HE := Lib.hid he
    have HL := Lib.hid hf
    clear hm he hf
    have HX : Hid (n + pre.length + 1 ≤ maxLen ∧ (n + pre.length + 1) * 1 ≤ 140737488355328) := by
      have := HN.out; have := HL.out; refine ⟨?_, ?_⟩ <;> (try simp only [maxLen]) <;> omega
    by_cases hlt : 128 ≤ m
    · have hb : (128 : Int) ≤ m := by omega
      go_wp2_with (at_builtin; refine wpList_app _ rfl (.tmp 15) (.tmp 19) 25 25 rfl elB (hown.alloc _) rfl (Src.of_new wr.heap.size (heap_alloc_new wr _) Tryz.underlying25 rfl (by simp [Value.oneCell'])) rfl HX.out.1 HX.out.2 ?_; intro v1 w1 hown1 hfr1 hnew1)
      go_roundw
      case rel =>
        have he := HE.out
        have hf := HL.out
        have hm := HM.out
        cases f with
        | zero => simp at hm; omega
        | succ f =>
          refine ⟨pre ++ [UInt8.ofNat (m % 128 + 128)], m / 128, f, by go_num, by rw [Nat.pow_succ] at hm; omega, ?_, by simp; omega, ?_, ?_, ?_⟩
          · rw [he, encF, if_neg (by omega)]
            simp
          · rw [bs_append, bs_of_nat _ (by omega)]
            simpa [Nat.add_assoc] using hown1
          · exact fr_newer (hfr.trans (Fr.alloc (Fr.refl _ _) _)) hnew hfr1
          · exact hnew.trans (Newer.of hnew1) (by have := hfr.size; simp; omega)
      case measure => simp [intOf]; omega
    · have hb : ¬ (128 : Int) ≤ m := by omega
      go_wp2_with (at_builtin; refine wpList_app _ rfl (.tmp 23) (.tmp 26) 25 25 rfl elB (hown.alloc _) rfl (Src.of_new wr.heap.size (heap_alloc_new wr _) Tryz.underlying25 rfl (by simp [Value.oneCell'])) rfl HX.out.1 HX.out.2 ?_; intro v1 w1 hown1 hfr1 hnew1)
      go_ret
      have he := HE.out
      have hF := HF.out
      have hl : encF f m = [UInt8.ofNat m] := by
        cases f with
        | zero => rfl
        | succ f => rw [encF, if_pos (by omega)]
      rw [he, hl] at hF
      subst hF
      refine ⟨v1, rfl, ?_, fr_newer (hfr.trans (Fr.alloc (Fr.refl _ _) _)) hnew hfr1, hnew.trans (Newer.of hnew1) (by have := hfr.size; simp; omega)⟩
      rw [bs_append, bs_of_nat _ (by omega)]
      simpa [Nat.add_assoc] using hown1

theorem num_any (x : Int) (w : World) (h1 : -9223372036854775808 ≤ x) (h2 : x ≤ 9223372036854775807) :
    Calls Tryz.prog 62 #[.int .i64 x] w (RetOwn w 5 1 none (enc (zig x)).length (bs (enc (zig x)))) := by
  go_enter Tryz.func62, Tryz.ntmps62
  go_wp2_with (go_at_call 88; refine (number_any _ 0 [] x _ (Own.nil _ _ _) h1 h2 (by omega)).mono ?_; rintro e w' ⟨v', rfl, hown, hfr, hnew⟩)
  go_ret
  exact ⟨v', rfl, by simpa using hown, hfr, hnew⟩

set_option maxHeartbeats 400000 in
theorem text_any (s : ByteArray) (w : World) (hs : s.size ≤ 140737488350000) :
    Calls Tryz.prog 32 #[.string s] w (RetOwn w 5 1 none ((enc (zig s.size)).length + s.size) (bs (enc (zig s.size) ++ s.data.toList))) := by
  have HS := Lib.hid hs
  have hl := enc_length_le (zig s.size)
  clear hs
  generalize hz : enc (zig s.size) = z at hl ⊢
  have HZ := Lib.hid hz
  clear hz
  go_enter Tryz.func32, Tryz.ntmps32
  go_wp2_with (first | (go_at_call 62; refine (num_any (s.size : Int) _ (by omega) (by have := HS.out; omega)).mono ?_; rintro e w' ⟨v', rfl, hown, hfr, hnew⟩; rw [HZ.out] at hown) | (at_builtin; refine wpList_app _ rfl (.tmp 5) (.tmp 6) 25 9 rfl elB hown rfl (Src.of_str s Tryz.underlying9) rfl (by have := HS.out; simp only [maxLen]; omega) (by have := HS.out; omega) ?_; intro v1 w1 hown1 hfr1 hnew1))
  go_ret
  refine ⟨v1, rfl, ?_, fr_newer hfr hnew hfr1, hnew.trans (Newer.of hnew1) hfr.size⟩
  rw [bs_append]
  exact hown1

/-- a list's bytes -/
def encs (l : List Int) : List UInt8 := l.flatMap fun x => enc (zig x)
def encNums (l : List Int) : List UInt8 := enc (zig l.length) ++ encs l
theorem encs_snoc (l : List Int) (x : Int) : encs (l ++ [x]) = encs l ++ enc (zig x) := by simp [encs]
theorem encs_length_le (l : List Int) : (encs l).length ≤ 10 * l.length := by
  induction l with
  | nil => simp [encs]
  | cons x l ih =>
    have := enc_length_le (zig x)
    have e : encs (x :: l) = enc (zig x) ++ encs l := by simp [encs]
    rw [e, List.length_append, List.length_cons]
    omega

def NumsRel (w : World) (l : List Int) (v i : Value) (wr : World) : Prop :=
  ∃ k : Nat, k ≤ l.length ∧ i = .int .i64 k ∧ Own wr 5 1 v (enc (zig l.length) ++ encs (l.take k)).length (bs (enc (zig l.length) ++ encs (l.take k))) ∧
    Fr No w wr ∧ Newer w.heap.size none v.ownBlock

theorem u64_or (a b : Nat) (ha : a < 18446744073709551616) (hb : b < 18446744073709551616) : bits .or .u64 (a : Int) (b : Int) = ((a ||| b : Nat) : Int) := by
  have hx : a ||| b < 2 ^ 64 := Nat.or_lt_two_pow (by omega) (by omega)
  show IntKind.u64.wrap ((BitVec.ofInt 64 (a : Int) ||| BitVec.ofInt 64 (b : Int)).toNat : Int) = _
  rw [BitVec.ofInt_natCast, BitVec.ofInt_natCast, BitVec.toNat_or, BitVec.toNat_ofNat, BitVec.toNat_ofNat, Nat.mod_eq_of_lt (by omega), Nat.mod_eq_of_lt (by omega), wrapu]
  omega

theorem pow128 (k : Nat) : (2 : Nat) ^ (7 * k) = 128 ^ k := by rw [Nat.pow_mul]

theorem or_shift (M c k : Nat) (hM : M < 128 ^ k) (hk : k ≤ 9) (hc : c * 128 ^ k < 18446744073709551616) :
    bits .or .u64 (M : Int) (IntKind.u64.wrap ((c : Int) * 2 ^ (7 * k))) = ((M + c * 128 ^ k : Nat) : Int) := by
  have e : ((c : Int) * 2 ^ (7 * k)) = ((c * 128 ^ k : Nat) : Int) := by
    rw [Int.natCast_mul, ← pow128]
    simp
  have e2 : ((c * 128 ^ k : Nat) : Int) % 18446744073709551616 = ((c * 128 ^ k : Nat) : Int) := by omega
  have h9 : (128 : Nat) ^ k ≤ 128 ^ 9 := Nat.pow_le_pow_right (by omega) hk
  have h9' : (128 : Nat) ^ 9 = 9223372036854775808 := by decide
  rw [e, wrapu, e2, u64_or M _ (by omega) hc]
  congr 1
  rw [← pow128] at hM ⊢
  have := Nat.shiftLeft_add_eq_or_of_lt hM c
  rw [Nat.shiftLeft_eq] at this
  rw [Nat.or_comm, ← this, Nat.add_comm]

theorem or_some (a b : Int) : ∃ n : Nat, bits .or .u64 a b = (n : Int) := by
  have h := bounds_u64 (wf_bits .or .u64 a b)
  exact ⟨(bits .or .u64 a b).toNat, by omega⟩

theorem small_pow (c k : Nat) (hc : c < 128) (hk : k < 9) : c * 128 ^ k < 18446744073709551616 := by
  have h8 : (128 : Nat) ^ k ≤ 128 ^ 8 := Nat.pow_le_pow_right (by omega) (by omega)
  have h8' : (128 : Nat) ^ 8 = 72057594037927936 := by decide
  have : c * 128 ^ k ≤ 127 * 72057594037927936 := Nat.mul_le_mul (by omega) (by omega)
  omega

theorem nine_pow (c k : Nat) (hc : c < 2) (hk : k ≤ 9) : c * 128 ^ k < 18446744073709551616 := by
  have h8 : (128 : Nat) ^ k ≤ 128 ^ 9 := Nat.pow_le_pow_right (by omega) (by omega)
  have h8' : (128 : Nat) ^ 9 = 9223372036854775808 := by decide
  have : c * 128 ^ k ≤ 1 * 9223372036854775808 := Nat.mul_le_mul (by omega) (by omega)
  omega

def FirstRel (l : List UInt8) (m i : Value) : Prop :=
  ∃ k M' M : Nat, k ≤ l.length ∧ k ≤ 10 ∧ i = .int .i64 k ∧ m = .int .u64 M' ∧ (k ≤ 9 → M' = M ∧ M < 128 ^ k) ∧ decF k M (l.drop k) = dec l

set_option maxHeartbeats 400000 in
theorem first_any (F : Nat → Prop) (A : Option Addr) (c : Nat) (l : List UInt8) (w : World) (hr : Rd w F 1 A l.length (bs l)) (hsz : l.length ≤ 140737488355328) :
    Calls Tryz.prog 107 #[.slice A l.length c] w fun e w' => e = .returned (.tuple #[.int .u64 ((dec l).1 : Int), .int .i64 ((dec l).2.1 : Int), .int .i64 ((dec l).2.2 : Int)]) ∧ w = w' := by
  generalize hd : dec l = d
  have HD := Lib.hid hd
  clear hd
  have HS := Lib.hid hsz
  clear hsz
  have HR := Lib.hid hr
  clear hr
  go_enter Tryz.func107, Tryz.ntmps107
  go_wp2
  go_loop [5, 11] (fun a b => FirstRel l a b) (fun _ b => l.length - (intOf b).toNat)
  case atStart => exact ⟨0, 0, 0, by omega, by omega, rfl, rfl, fun _ => ⟨rfl, by simp⟩, rfl⟩
  case round =>
    obtain ⟨k, M', M, hk, hk10, rfl, rfl, hM, hdec⟩ := hrel
    rw [HD.out] at hdec
    have HM := Lib.hid hM
    have HC := Lib.hid hdec
    clear hM hdec
    have hkl : l.length < 9223372036854775807 := by have := HS.out; omega
    by_cases hlt : k < l.length
    · obtain ⟨ad, u, rfl, _, hx, hc⟩ := HR.out.at_ hlt
      rw [bs_get l k hlt] at hx
      injection hx with hx
      subst hx
      have hdr : l.drop k = l[k] :: l.drop (k + 1) := List.drop_eq_getElem_cons hlt
      have HDR := Lib.hid hdr
      clear hdr
      have hlt8 : l[k].toNat < 256 := l[k].toNat_lt
      generalize l[k] = x at *
      by_cases h10 : k = 10
      · have he : ((k : Int) == 10) = true := by simp; omega
        have H10 := Lib.hid h10
        clear h10
        go_wp2
        go_ret3
        have := HC.out
        rw [HDR.out, H10.out] at this
        subst this
        exact ⟨rfl, rfl⟩
      · have hne : ((k : Int) == 10) = false := by simp; omega
        have hkb : (k : Int) ≤ 9 := by omega
        by_cases h128 : 128 ≤ x.toNat
        · have hb : (128 : Int) ≤ x.toNat := by omega
          have hcast : ((x.toNat : Int) - 128) = ((x.toNat - 128 : Nat) : Int) := by omega
          go_wp2
          have hd := HC.out
          rw [HDR.out, decF, if_neg (by omega), if_pos h128] at hd
          obtain ⟨hM, hMk⟩ := HM.out (by omega)
          subst hM
          by_cases h9 : k = 9
          · obtain ⟨n, hn⟩ := or_some (M' : Int) (IntKind.u64.wrap (((x.toNat - 128 : Nat) : Int) * 2 ^ (7 * k)))
            rw [hn]
            subst h9
            exact ⟨⟨10, n, 0, by omega, by omega, by go_num, rfl, fun h => absurd h (by omega), (decF_ten _ _ _).trans (hd.trans HD.out.symm)⟩, by simp [intOf]; omega⟩
          · have hp : (x.toNat - 128) * 128 ^ k < 128 ^ (k + 1) := by
              rw [pow_step]
              exact Nat.mul_lt_mul_of_pos_right (by omega) (Nat.pow_pos (by omega))
            have hp2 : M' + (x.toNat - 128) * 128 ^ k < 128 ^ (k + 1) := by
              rw [pow_step]
              have : (x.toNat - 128) * 128 ^ k ≤ 127 * 128 ^ k := Nat.mul_le_mul_right _ (by omega)
              omega
            have h9' : (128 : Nat) ^ (k + 1) ≤ 128 ^ 9 := Nat.pow_le_pow_right (by omega) (by omega)
            have h9'' : (128 : Nat) ^ 9 = 9223372036854775808 := by decide
            rw [or_shift M' _ k hMk (by omega) (by omega)]
            exact ⟨⟨k + 1, _, _, by omega, by omega, by go_num, rfl, fun _ => ⟨rfl, hp2⟩, hd.trans HD.out.symm⟩, by simp [intOf]; omega⟩
        · have hb : ¬ (128 : Int) ≤ x.toNat := by omega
          by_cases h9 : k = 9
          · have h9b : ((k : Int) == 9) = true := by simp; omega
            by_cases h1 : 1 < x.toNat
            · have h1b : (1 : Int) < x.toNat := by omega
              have H9 := Lib.hid h9; clear h9
              go_wp2
              go_ret3
              have hd := HC.out
              rw [HDR.out, decF, if_neg (by omega), if_neg h128, if_pos (.inl ⟨H9.out, h1⟩)] at hd
              subst hd
              exact ⟨rfl, rfl⟩
            · have h1b : ¬ (1 : Int) < x.toNat := by omega
              by_cases h0 : x.toNat = 0
              · have h0b : ((x.toNat : Int) == 0) = true := by simp; omega
                have h0k : (0 : Int) < k := by omega
                have H9 := Lib.hid h9; have H0 := Lib.hid h0; clear h9 h0
                go_wp2
                go_ret3
                have hd := HC.out
                rw [HDR.out, decF, if_neg (by omega), if_neg h128, if_pos (.inr ⟨H0.out, by omega⟩)] at hd
                subst hd
                exact ⟨rfl, rfl⟩
              · have h0b : ((x.toNat : Int) == 0) = false := by simp; omega
                have H9 := Lib.hid h9; have H0 := Lib.hid h0; clear h9 h0
                go_wp2
                go_ret3
                have hd := HC.out
                rw [HDR.out, decF, if_neg (by omega), if_neg h128, if_neg (by have := H9.out; have := H0.out; omega)] at hd
                subst hd
                obtain ⟨hM, hMk⟩ := HM.out (by omega)
                subst hM
                rw [or_shift M' _ k hMk (by omega) (by have := H9.out; have := H0.out; first | exact small_pow _ _ (by omega) (by omega) | exact nine_pow _ _ (by omega) (by omega))]
                exact ⟨rfl, rfl⟩
          · have h9b : ((k : Int) == 9) = false := by simp; omega
            by_cases h0 : x.toNat = 0
            · have h0b : ((x.toNat : Int) == 0) = true := by simp; omega
              by_cases h0k : 0 < k
              · have h0kb : (0 : Int) < k := by omega
                have H9 := Lib.hid h9; have H0 := Lib.hid h0; clear h9 h0
                go_wp2
                go_ret3
                have hd := HC.out
                rw [HDR.out, decF, if_neg (by omega), if_neg h128, if_pos (.inr ⟨H0.out, by omega⟩)] at hd
                subst hd
                exact ⟨rfl, rfl⟩
              · have h0kb : ¬ (0 : Int) < k := by omega
                have H9 := Lib.hid h9; have H0 := Lib.hid h0; clear h9 h0
                go_wp2
                go_ret3
                have hd := HC.out
                rw [HDR.out, decF, if_neg (by omega), if_neg h128, if_neg (by have := H9.out; have := H0.out; omega)] at hd
                subst hd
                obtain ⟨hM, hMk⟩ := HM.out (by omega)
                subst hM
                rw [or_shift M' _ k hMk (by omega) (by have := H9.out; have := H0.out; first | exact small_pow _ _ (by omega) (by omega) | exact nine_pow _ _ (by omega) (by omega))]
                exact ⟨rfl, rfl⟩
            · have h0b : ((x.toNat : Int) == 0) = false := by simp; omega
              have H9 := Lib.hid h9; have H0 := Lib.hid h0; clear h9 h0
              go_wp2
              go_ret3
              have hd := HC.out
              rw [HDR.out, decF, if_neg (by omega), if_neg h128, if_neg (by have := H9.out; have := H0.out; omega)] at hd
              subst hd
              obtain ⟨hM, hMk⟩ := HM.out (by omega)
              subst hM
              rw [or_shift M' _ k hMk (by omega) (by have := H9.out; have := H0.out; first | exact small_pow _ _ (by omega) (by omega) | exact nine_pow _ _ (by omega) (by omega))]
              exact ⟨rfl, rfl⟩
    · have : k = l.length := by omega
      subst this
      go_wp2
      go_ret3
      have := HC.out
      rw [List.drop_length] at this
      subst this
      exact ⟨rfl, rfl⟩
end Go.Proofs.YtnphncemghfkbaaGreat

namespace Go.Proofs.YtnphncemghfkbaaGreat
open Go.RowKit Go.My Go.Maps
set_option linter.unusedSimpArgs false
set_option linter.unusedVariables false
attribute [local go_sem ↓] Go.wp_at_zero Go.wp_at_succ

def AnyB : Nat → Prop := fun _ => True
/-- a list of lists of bytes, in memory -/
def LsB (w : World) (A : Option Addr) (Ls : List (List UInt8)) : Prop :=
  ∃ cells, Rd w AnyB 1 A Ls.length cells ∧ ∀ i (h : i < Ls.length), ∃ A' c', cells[i]? = some (.slice A' Ls[i].length c') ∧ Rd w AnyB 1 A' Ls[i].length (bs Ls[i])
theorem LsB.at_ {w : World} {A : Option Addr} {Ls : List (List UInt8)} (h : LsB w A Ls) (i : Nat) (hi : i < Ls.length) : ∃ ad A' c', A = some ad ∧ w.cell? (ad.add i) = some (.slice A' Ls[i].length c') ∧ Rd w AnyB 1 A' Ls[i].length (bs Ls[i]) := by
  obtain ⟨cells, h1, h2⟩ := h
  obtain ⟨A', c', h3, h4⟩ := h2 i hi
  obtain ⟨ad, u, rfl, _, h5, h6⟩ := h1.at_ hi
  rw [h3] at h5
  injection h5 with h5
  subst h5
  exact ⟨ad, A', c', rfl, h6, h4⟩
theorem LsB.fr {w w' : World} {A : Option Addr} {Ls : List (List UInt8)} (h : LsB w A Ls) (hf : Fr No w w') : LsB w' A Ls := by
  obtain ⟨cells, h1, h2⟩ := h
  refine ⟨cells, h1.fr (by omega) hf (fun _ _ _ h => h), fun i hi => ?_⟩
  obtain ⟨A', c', h3, h4⟩ := h2 i hi
  exact ⟨A', c', h3, h4.fr (by omega) hf (fun _ _ _ h => h)⟩

set_option maxRecDepth 100000 in
set_option maxHeartbeats 1000000 in
theorem growB_any (n : Nat) (w : World) (hn : n ≤ 1000) :
    Calls Tryz.prog 91 #[.slice none 0 0, .int .i64 n] w (RetOwn w 5 1 none 0 []) := by
  by_cases h0 : 0 < n
  · have hX : Hid (n ≤ maxLen ∧ n * 1 ≤ 140737488355328) := by
      refine ⟨?_, ?_⟩ <;> (try simp only [maxLen]) <;> omega
    go_enter Tryz.func91, Tryz.ntmps91
    go_wp2_with (at_builtin; refine wpList_app_make _ rfl (.tmp 20) (.tmp 21) 25 3 rfl elB Tryz.underlying3 n h0 rfl rfl hX.out.1 hX.out.2 ?_; intro cap w1 xs hown hfr hc1 hc2)
    go_ret
    exact ⟨_, rfl, hown.zero, hfr.mono (fun _ _ h => False.elim h), .inr ⟨_, rfl, Nat.le_refl _⟩⟩
  · obtain rfl : n = 0 := by omega
    go_enter Tryz.func91, Tryz.ntmps91
    go_wp2
    go_ret
    exact ⟨_, rfl, Own.nil _ _ _, Fr.refl _ _, .inl rfl⟩

/-- all lists, one behind the other -/
def flatB (Ls : List (List UInt8)) : List UInt8 := Ls.flatten
theorem flatB_take {Ls : List (List UInt8)} {k : Nat} (h : k < Ls.length) : flatB (Ls.take (k + 1)) = flatB (Ls.take k) ++ Ls[k] := by
  unfold flatB
  rw [List.take_succ_eq_append_getElem h, List.flatten_append]
  simp
theorem flatB_le {Ls : List (List UInt8)} (k : Nat) : (flatB (Ls.take k)).length ≤ (flatB Ls).length := by
  have e : Ls = Ls.take k ++ Ls.drop k := (List.take_append_drop k Ls).symm
  have : flatB Ls = flatB (Ls.take k) ++ flatB (Ls.drop k) := by unfold flatB; rw [← List.flatten_append, ← e]
  rw [this, List.length_append]
  omega
def CcRelB (w : World) (Ls : List (List UInt8)) (sz iv : Value) (wr : World) : Prop := ∃ k : Nat, k ≤ Ls.length ∧ iv = .int .i64 k ∧ sz = .int .i64 ((flatB (Ls.take k)).length : Nat) ∧ wr = w
def CdRelB (w : World) (Ls : List (List UInt8)) (lv iv : Value) (wr : World) : Prop := ∃ k : Nat, k ≤ Ls.length ∧ iv = .int .i64 k ∧ Own wr 5 1 lv (flatB (Ls.take k)).length (bs (flatB (Ls.take k))) ∧ Fr No w wr ∧ Newer w.heap.size none lv.ownBlock

set_option maxRecDepth 100000 in
set_option maxHeartbeats 1000000 in
theorem concatB_any (A : Option Addr) (c : Nat) (Ls : List (List UInt8)) (w : World) (h : LsB w A Ls) (hl : Ls.length ≤ 100) (hL : (flatB Ls).length ≤ 1000) :
    Calls Tryz.prog 64 #[.slice A Ls.length c] w (RetOwn w 5 1 none (flatB Ls).length (bs (flatB Ls))) := by
  have HH := Lib.hid h
  have HLE : Hid (∀ k, (flatB (Ls.take k)).length ≤ (flatB Ls).length) := fun k => flatB_le k
  clear h
  go_enter Tryz.func64, Tryz.ntmps64
  go_wp2
  go_loopw [3, 11] (fun sz iv wr => CcRelB w Ls sz iv wr) (fun _ iv _ => Ls.length - (intOf iv).toNat)
  case atStart => exact ⟨0, Nat.zero_le _, rfl, rfl, rfl⟩
  case round =>
    obtain ⟨k, hk, rfl, rfl, rfl⟩ := hrel
    by_cases hlt : k < Ls.length
    · obtain ⟨ad, A', c', rfl, q0, _⟩ := HH.out.at_ k hlt
      have h1 := HLE.out (k + 1)
      have E : Hid ((flatB (Ls.take (k + 1))).length = (flatB (Ls.take k)).length + Ls[k].length) := by show _ = _; rw [flatB_take hlt, List.length_append]
      rw [E.out] at h1
      generalize Ls[k].length = m at *
      generalize (flatB (Ls.take k)).length = n at *
      have hn0 : ¬ ((n : Int) + (m : Int)) < 0 := by omega
      go_wp2
      go_roundw
      case rel => exact ⟨k + 1, by omega, by go_num, by rw [E.out]; go_num, rfl⟩
      case measure => simp [intOf]; omega
    · obtain rfl : k = Ls.length := by omega
      rw [List.take_length]
      obtain ⟨wo, rfl⟩ : ∃ wo : World, wo = wr := ⟨_, rfl⟩
      have HG := Lib.hid (growB_any (flatB Ls).length wo hL)
      go_wp2_with fail
      refine HG.out.mono ?_
      rintro e w1 ⟨v1, rfl, ho1, hf1', hn1⟩
      have hf1 := fr_at_none hf1'
      have HO1 := Lib.hid ho1
      have HF1 := Lib.hid hf1
      have HN1 := Lib.hid hn1
      clear ho1 hf1 hf1' hn1 HG
      go_wp2
      go_loopw [6, 27] (fun lv iv wx => CdRelB wo Ls lv iv wx) (fun _ iv _ => Ls.length - (intOf iv).toNat)
      case atStart => exact ⟨0, Nat.zero_le _, rfl, HO1.out, HF1.out, HN1.out⟩
      case round =>
        obtain ⟨k, hk, rfl, hown, hfr, hnew⟩ := hrel
        by_cases hlt : k < Ls.length
        · obtain ⟨ad, A', c', rfl, q0, hr⟩ := (HH.out.fr hfr).at_ k hlt
          have h1 := HLE.out (k + 1)
          have E : Hid ((flatB (Ls.take (k + 1))).length = (flatB (Ls.take k)).length + Ls[k].length) := by show _ = _; rw [flatB_take hlt, List.length_append]
          have E2 : Hid (bs (flatB (Ls.take (k + 1))) = bs (flatB (Ls.take k)) ++ bs Ls[k]) := by show _ = _; rw [flatB_take hlt, bs_append]
          have HS : Hid (Src Tryz.prog wr 1 25 (.slice A' Ls[k].length c') Ls[k].length (bs Ls[k])) := Src.of_rd hr (bs_one _) Tryz.underlying25
          rw [E.out] at h1
          have hX : Hid ((flatB (Ls.take k)).length + Ls[k].length ≤ maxLen ∧ ((flatB (Ls.take k)).length + Ls[k].length) * 1 ≤ 140737488355328) := by
            refine ⟨?_, ?_⟩ <;> (try simp only [maxLen]) <;> omega
          have HOWN := Lib.hid hown
          have HFR := Lib.hid hfr
          have HNEW := Lib.hid hnew
          clear hown hfr hnew hr
          go_wp2_with (at_builtin; refine wpList_app _ rfl (.tmp 31) (.tmp 32) 25 25 rfl elB HOWN.out rfl HS.out rfl hX.out.1 hX.out.2 ?_; intro v1 w3 hown3 hfr3 hnew3)
          go_roundw
          case rel =>
            refine ⟨k + 1, by omega, by go_num, ?_, fr_no HFR.out HNEW.out hfr3, HNEW.out.trans (Newer.of hnew3) HFR.out.size⟩
            rw [E.out, E2.out]
            exact hown3
          case measure => simp [intOf]; omega
        · obtain rfl : k = Ls.length := by omega
          rw [List.take_length] at hown
          go_wp2
          go_ret
          exact ⟨_, rfl, hown, hfr.mono (fun _ _ h => False.elim h), hnew⟩
end Go.Proofs.YtnphncemghfkbaaGreat

namespace Go.Proofs.YtnphncemghfkbaaGreat
open Go.RowKit Go.My Go.Maps
set_option linter.unusedSimpArgs false
set_option linter.unusedVariables false
attribute [local go_sem ↓] Go.wp_at_zero Go.wp_at_succ

/-- a number's bytes, a text's -/
def nB (x : Int) : List UInt8 := enc (zig x)
def tB (s : List UInt8) : List UInt8 := enc (zig s.length) ++ s
theorem nB_len (x : Int) : (nB x).length ≤ 10 := enc_length_le _
/-- handed back: bytes of the call's own -/
def RetB (l : List UInt8) (w : World) (e : Ending) (w' : World) : Prop := ∃ A c, e = .returned (.slice A l.length c) ∧ Own w' 5 1 (.slice A l.length c) l.length (bs l) ∧ Fr No w w'
theorem RetB.of {l : List UInt8} {w w' : World} {e : Ending} (h : RetOwn w 5 1 none l.length (bs l) e w') : RetB l w e w' := by
  obtain ⟨v, rfl, ho, hf, _⟩ := h
  obtain ⟨A, c, rfl, _, _⟩ := ho.form
  exact ⟨A, c, rfl, ho, fr_at_none hf⟩
theorem pnum_any (x : Int) (hx : In64 x) (w : World) : Calls Tryz.prog 62 #[.int .i64 x] w (RetB (nB x) w) := (num_any x w hx.1 hx.2).mono fun e w' h => RetB.of h
theorem onum_any (x : Int) (hx : In64 x) (w : World) : Calls Tryz.prog 65 #[.int .i64 x] w (RetB (nB x) w) := by
  have H := Lib.hid (pnum_any x hx w)
  unfold In64 at hx
  go_enter Tryz.func65, Tryz.ntmps65
  go_wp2_with fail
  refine H.out.mono ?_
  rintro e w1 ⟨A, c, rfl, ho, hf⟩
  go_wp2
  go_ret
  exact ⟨A, c, rfl, ho, hf⟩
theorem ptext_any (s : ByteArray) (hs : s.size ≤ 140737488350000) (w : World) : Calls Tryz.prog 32 #[.string s] w (RetB (tB s.data.toList) w) := (text_any s w hs).mono fun e w' h => RetB.of (by
  have e1 : (tB s.data.toList).length = (enc (zig s.size)).length + s.size := by unfold tB; rw [List.length_append]; rfl
  rw [e1]
  exact h)
/-- lists of bytes of the call's own, in a row -/
theorem LsB.of {w : World} {g : Nat} {t : TypeId} {vs : List Value} {ls : List (List UInt8)} (hb : Blk w g t vs.toArray) (hl : vs.length = ls.length) (h : ∀ i (hi : i < ls.length), ∃ A c, vs[i]? = some (.slice A ls[i].length c) ∧ Own w 5 1 (.slice A ls[i].length c) ls[i].length (bs ls[i])) : LsB w (some ⟨g, 0, none⟩) ls := by
  refine ⟨vs, ⟨by rw [hl]; simp, fun _ => ⟨_, rfl, True.intro, fun j u hu => ?_⟩⟩, fun i hi => ?_⟩
  · rw [add_zero, hb.cell j]
    simpa using hu
  · obtain ⟨A, c, h1, h2⟩ := h i hi
    exact ⟨A, c, h1, h2.rd.more (fun _ _ => True.intro)⟩
theorem ownNo {w w' : World} {e : TypeId} {size n : Nat} {v : Value} {xs : List Value} (h : Own w e size v n xs) (hf : Fr No w w') : Own w' e size v n xs := h.fr hf (fun _ _ h => h)

theorem concatB_n (c : Nat) {A : Option Addr} {n : Nat} {Ls : List (List UInt8)} {w : World} (h : LsB w A Ls) (hn : Ls.length = n) (hl : n ≤ 100) (hL : (flatB Ls).length ≤ 1000) :
    Calls Tryz.prog 64 #[.slice A n c] w (RetB (flatB Ls) w) := by
  subst hn
  exact (concatB_any A c Ls w h hl hL).mono fun _ _ h => RetB.of h
theorem LsB.three {u : World} {A1 A2 A3 : Option Addr} {l1 l2 l3 : List UInt8} {c1 c2 c3 : Nat} (h1 : Own u 5 1 (.slice A1 l1.length c1) l1.length (bs l1)) (h2 : Own u 5 1 (.slice A2 l2.length c2) l2.length (bs l2)) (h3 : Own u 5 1 (.slice A3 l3.length c3) l3.length (bs l3)) :
    LsB (u.alloc (.cells #[.slice A1 l1.length c1, .slice A2 l2.length c2, .slice A3 l3.length c3] 25)) (some ⟨u.heap.size, 0, none⟩) [l1, l2, l3] := by
  refine LsB.of (vs := [.slice A1 l1.length c1, .slice A2 l2.length c2, .slice A3 l3.length c3]) (Blk.new u 25 _) rfl (fun i hi => ?_)
  simp only [List.length_cons, List.length_nil] at hi
  match i, hi with
  | 0, _ => exact ⟨A1, c1, rfl, h1.alloc _⟩
  | 1, _ => exact ⟨A2, c2, rfl, h2.alloc _⟩
  | 2, _ => exact ⟨A3, c3, rfl, h3.alloc _⟩
  | i + 3, h => exact absurd h (by omega)
theorem LsB.four {u : World} {A1 A2 A3 A4 : Option Addr} {l1 l2 l3 l4 : List UInt8} {c1 c2 c3 c4 : Nat} (h1 : Own u 5 1 (.slice A1 l1.length c1) l1.length (bs l1)) (h2 : Own u 5 1 (.slice A2 l2.length c2) l2.length (bs l2)) (h3 : Own u 5 1 (.slice A3 l3.length c3) l3.length (bs l3)) (h4 : Own u 5 1 (.slice A4 l4.length c4) l4.length (bs l4)) :
    LsB (u.alloc (.cells #[.slice A1 l1.length c1, .slice A2 l2.length c2, .slice A3 l3.length c3, .slice A4 l4.length c4] 25)) (some ⟨u.heap.size, 0, none⟩) [l1, l2, l3, l4] := by
  refine LsB.of (vs := [.slice A1 l1.length c1, .slice A2 l2.length c2, .slice A3 l3.length c3, .slice A4 l4.length c4]) (Blk.new u 25 _) rfl (fun i hi => ?_)
  simp only [List.length_cons, List.length_nil] at hi
  match i, hi with
  | 0, _ => exact ⟨A1, c1, rfl, h1.alloc _⟩
  | 1, _ => exact ⟨A2, c2, rfl, h2.alloc _⟩
  | 2, _ => exact ⟨A3, c3, rfl, h3.alloc _⟩
  | 3, _ => exact ⟨A4, c4, rfl, h4.alloc _⟩
  | i + 4, h => exact absurd h (by omega)
theorem LsB.seven {u : World} {A1 A2 A3 A4 A5 A6 A7 : Option Addr} {l1 l2 l3 l4 l5 l6 l7 : List UInt8} {c1 c2 c3 c4 c5 c6 c7 : Nat} (h1 : Own u 5 1 (.slice A1 l1.length c1) l1.length (bs l1)) (h2 : Own u 5 1 (.slice A2 l2.length c2) l2.length (bs l2)) (h3 : Own u 5 1 (.slice A3 l3.length c3) l3.length (bs l3)) (h4 : Own u 5 1 (.slice A4 l4.length c4) l4.length (bs l4)) (h5 : Own u 5 1 (.slice A5 l5.length c5) l5.length (bs l5)) (h6 : Own u 5 1 (.slice A6 l6.length c6) l6.length (bs l6)) (h7 : Own u 5 1 (.slice A7 l7.length c7) l7.length (bs l7)) :
    LsB (u.alloc (.cells #[.slice A1 l1.length c1, .slice A2 l2.length c2, .slice A3 l3.length c3, .slice A4 l4.length c4, .slice A5 l5.length c5, .slice A6 l6.length c6, .slice A7 l7.length c7] 25)) (some ⟨u.heap.size, 0, none⟩) [l1, l2, l3, l4, l5, l6, l7] := by
  refine LsB.of (vs := [.slice A1 l1.length c1, .slice A2 l2.length c2, .slice A3 l3.length c3, .slice A4 l4.length c4, .slice A5 l5.length c5, .slice A6 l6.length c6, .slice A7 l7.length c7]) (Blk.new u 25 _) rfl (fun i hi => ?_)
  simp only [List.length_cons, List.length_nil] at hi
  match i, hi with
  | 0, _ => exact ⟨A1, c1, rfl, h1.alloc _⟩
  | 1, _ => exact ⟨A2, c2, rfl, h2.alloc _⟩
  | 2, _ => exact ⟨A3, c3, rfl, h3.alloc _⟩
  | 3, _ => exact ⟨A4, c4, rfl, h4.alloc _⟩
  | 4, _ => exact ⟨A5, c5, rfl, h5.alloc _⟩
  | 5, _ => exact ⟨A6, c6, rfl, h6.alloc _⟩
  | 6, _ => exact ⟨A7, c7, rfl, h7.alloc _⟩
  | i + 7, h => exact absurd h (by omega)
def toldB (r : Rp) : List UInt8 := flatB [nB r.err, nB r.hv, nB r.st, nB r.num]
theorem toldB_len (r : Rp) : (toldB r).length ≤ 1000 := by
  have h1 := nB_len r.err
  have h2 := nB_len r.hv
  have h3 := nB_len r.st
  have h4 := nB_len r.num
  unfold toldB flatB
  simp only [List.flatten_cons, List.flatten_nil, List.length_append, List.length_nil]
  omega
end Go.Proofs.YtnphncemghfkbaaGreat
