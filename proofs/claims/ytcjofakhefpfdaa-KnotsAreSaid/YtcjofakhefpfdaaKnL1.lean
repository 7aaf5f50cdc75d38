/- The laws' first look: a ring, and one that waits for it. -/
import Derived.Test.YtcjofakhefpfdaaKnL0
import Derived.Test.YtcjofakhefpfdaaKnK2
import Derived.Test.YtcjofakhefpfdaaKnR
import Derived.Test.YtcjofakhefpfdaaKnQ2
import Derived.Deep.DeepCutAuto
namespace Go.Proofs.Ytcjofakhefpfdaa
open Go.RowKit Go.My Go.My.Kn Go.Maps
set_option linter.unusedSimpArgs false
set_option linter.unusedVariables false
attribute [local go_sem ↓] Go.wp_at_zero Go.wp_at_succ

theorem kn0 : KnSeq 3 (via' [[1], [2], [1]]) [] [[1, 2], [0]] := by
  have e : [[1, 2], [0]] = [cls 3 (via' [[1], [2], [1]]) 1, cls 3 (via' [[1], [2], [1]]) 0] := by decide
  rw [e]
  have hlt : ∀ i k, via' [[1], [2], [1]] i k = true → k < 3 := fun i k h => ((reachR [[1], [2], [1]]).lt i k h).2
  refine KnSeq.cons 1 ⟨by decide, by simp, fun k h1 h2 => ?_⟩ (fun j hj hf => ?_) (KnSeq.cons 0 ⟨by decide, by decide, fun k h1 h2 => ?_⟩ (fun j hj => absurd hj (Nat.not_lt_zero _)) (KnSeq.nil fun i hf => ?_))
  · have hk := hlt 1 k h1
    rcases (show k = 0 ∨ k = 1 ∨ k = 2 by omega) with rfl | rfl | rfl <;> revert h1 h2 <;> decide
  · obtain rfl : j = 0 := by omega
    have := hf.2.2 1 (by decide) (by decide)
    simp at this
  · have hk := hlt 0 k h1
    rcases (show k = 0 ∨ k = 1 ∨ k = 2 by omega) with rfl | rfl | rfl <;> revert h1 h2 <;> decide
  · have hk := hf.1
    have h2 := hf.2.1
    rcases (show i = 0 ∨ i = 1 ∨ i = 2 by omega) with rfl | rfl | rfl <;> revert h2 <;> decide
theorem one_of {L : List Int} {a : Int} (h : L.Pairwise (· < ·)) (hm : ∀ x, x ∈ L ↔ x = a) : L = [a] := by
  cases L with
  | nil => have := (hm a).2 rfl; simp at this
  | cons x r =>
    have hx := (hm x).1 List.mem_cons_self
    subst hx
    cases r with
    | nil => rfl
    | cons y r =>
      have hy := (hm y).1 (by simp)
      rw [List.pairwise_cons] at h
      have := h.1 y List.mem_cons_self
      omega
theorem reach0 (x : Int) : reachX [[1], []] 0 x ↔ x = 1 := by
  rw [reachX_iff]
  constructor
  · rintro ⟨i, j, hi, rfl, ht⟩
    obtain rfl : i = 0 := by omega
    have h1 := (vtr [[1], []] 0 j).2 ht
    have hj : j < 2 := ((reachR [[1], []]).lt 0 j h1).2
    rcases (show j = 0 ∨ j = 1 by omega) with rfl | rfl
    · revert h1; decide
    · rfl
  · rintro rfl
    exact ⟨0, 1, rfl, rfl, (vtr [[1], []] 0 1).1 (by decide)⟩
theorem open0 (x : Int) : openX [[]] [true] x ↔ x = 0 := by
  rw [openX_iff]
  constructor
  · rintro ⟨a, ha, rfl, -, -⟩
    have ha : a < 1 := ha
    obtain rfl : a = 0 := by omega
    rfl
  · rintro rfl
    refine ⟨0, by decide, rfl, by decide, fun b hb => ?_⟩
    have h1 := (vtr [[]] 0 b).2 hb
    have hj : b < 1 := ((reachR [[]]).lt 0 b h1).2
    obtain rfl : b = 0 := by omega
    revert h1; decide
/-- rows in blocks that are written out -/
theorem rd_blk {W : World} {g : Nat} {t : TypeId} {cs : Array Value} (h : Blk W g t cs) : Rd W (fun _ => True) 1 (some ⟨g, 0, none⟩) cs.size cs.toList :=
  ⟨by simp, fun _ => ⟨_, rfl, trivial, fun j u hu => by rw [add_zero, h.cell j, ← Array.getElem?_toList]; exact hu⟩⟩
theorem rdg3 {W : World} {g a b c : Nat} {x y z : Int} (h : Blk W g 26 #[.slice (some ⟨a, 0, none⟩) 1 1, .slice (some ⟨b, 0, none⟩) 1 1, .slice (some ⟨c, 0, none⟩) 1 1]) (ha : Blk W a 3 #[.int .i64 x]) (hb : Blk W b 3 #[.int .i64 y]) (hc : Blk W c 3 #[.int .i64 z]) :
    RdG W (fun _ => True) (some ⟨g, 0, none⟩) [[x], [y], [z]] := by
  refine ⟨_, rd_blk h, fun i L hL => ?_⟩
  have hm : (1 : Nat) ≤ maxLen := by simp [maxLen]
  match i, hL with
  | 0, hL => injection hL with hL; subst hL; exact ⟨_, 1, rfl, rd_blk ha, Nat.le_refl _, hm⟩
  | 1, hL => injection hL with hL; subst hL; exact ⟨_, 1, rfl, rd_blk hb, Nat.le_refl _, hm⟩
  | 2, hL => injection hL with hL; subst hL; exact ⟨_, 1, rfl, rd_blk hc, Nat.le_refl _, hm⟩
theorem rdg2 {W : World} {g a : Nat} {x : Int} (h : Blk W g 26 #[.slice (some ⟨a, 0, none⟩) 1 1, .slice none 0 0]) (ha : Blk W a 3 #[.int .i64 x]) : RdG W (fun _ => True) (some ⟨g, 0, none⟩) [[x], []] := by
  refine ⟨_, rd_blk h, fun i L hL => ?_⟩
  have hm : (1 : Nat) ≤ maxLen := by simp [maxLen]
  match i, hL with
  | 0, hL => injection hL with hL; subst hL; exact ⟨_, 1, rfl, rd_blk ha, Nat.le_refl _, hm⟩
  | 1, hL => injection hL with hL; subst hL; exact ⟨none, 0, rfl, Rd.none_, Nat.le_refl _, Nat.zero_le _⟩
theorem rdg1 {W : World} {g : Nat} (h : Blk W g 26 #[.slice none 0 0]) : RdG W (fun _ => True) (some ⟨g, 0, none⟩) [[]] := by
  refine ⟨_, rd_blk h, fun i L hL => ?_⟩
  match i, hL with
  | 0, hL => injection hL with hL; subst hL; exact ⟨none, 0, rfl, Rd.none_, Nat.le_refl _, Nat.zero_le _⟩
/-- two rows: what is read of them -/
theorem rdg_two {w : World} {F : Nat → Prop} {A : Option Addr} {L1 L2 : List Int} (h : RdG w F A [L1, L2]) : ∃ (ad : Addr) (A1 A2 : Option Addr) (c1 c2 : Nat), A = some ad ∧ w.cell? ad = some (.slice A1 L1.length c1) ∧ w.cell? (ad.add 1) = some (.slice A2 L2.length c2) ∧ Rd w F 1 A1 L1.length (is_ L1) ∧ Rd w F 1 A2 L2.length (is_ L2) := by
  obtain ⟨ad, A1, c1, rfl, h1, h2, _⟩ := h.at_ 0 (by simp)
  obtain ⟨ad', A2, c2, e, h3, h4, _⟩ := h.at_ 1 (by simp)
  injection e with e
  subst e
  have e0 : ad.add 0 = ad := by unfold Addr.add; rfl
  rw [e0] at h1
  exact ⟨ad, A1, A2, c1, c2, rfl, h1, h3, h2, h4⟩
theorem rd_one' (W : World) (x : Int) : Rd (W.alloc (.cells #[.int .i64 x] 3)) (fun _ => True) 1 (some ⟨W.heap.size, 0, none⟩) 1 (is_ [x]) := rd_blk (Blk.new W 3 #[.int .i64 x])
theorem rd_two' (W : World) (x y : Int) : Rd (W.alloc (.cells #[.int .i64 x, .int .i64 y] 3)) (fun _ => True) 1 (some ⟨W.heap.size, 0, none⟩) 2 (is_ [x, y]) := rd_blk (Blk.new W 3 #[.int .i64 x, .int .i64 y])
theorem same_two {w3 : World} {F : Nat → Prop} {A : Option Addr} {c : Nat} {x y : Int} (hr : Rd w3 F 1 A 2 (is_ [x, y])) : Calls Try.prog 13 #[.slice A 2 c, .slice (some ⟨w3.heap.size, 0, none⟩) 2 2] (w3.alloc (.cells #[.int .i64 x, .int .i64 y] 3)) fun e w' => e = .returned (.bool true) ∧ Fr No w3 w' := by
  have h := sameI_any (w3.alloc (.cells #[.int .i64 x, .int .i64 y] 3)) F (fun _ => True) A (some ⟨w3.heap.size, 0, none⟩) c 2 [x, y] [x, y] (hr.no_ ((Fr.refl _ _).alloc _)) (rd_two' w3 x y) (by simp)
  refine h.mono ?_
  rintro e w' ⟨rfl, hf⟩
  exact ⟨by simp, ((Fr.refl No w3).alloc _).trans hf⟩
theorem same_one {w3 : World} {F : Nat → Prop} {A : Option Addr} {c : Nat} {x : Int} (hr : Rd w3 F 1 A 1 (is_ [x])) : Calls Try.prog 13 #[.slice A 1 c, .slice (some ⟨w3.heap.size, 0, none⟩) 1 1] (w3.alloc (.cells #[.int .i64 x] 3)) fun e w' => e = .returned (.bool true) ∧ Fr No w3 w' := by
  have h := sameI_any (w3.alloc (.cells #[.int .i64 x] 3)) F (fun _ => True) A (some ⟨w3.heap.size, 0, none⟩) c 1 [x] [x] (hr.no_ ((Fr.refl _ _).alloc _)) (rd_one' w3 x) (by simp)
  refine h.mono ?_
  rintro e w' ⟨rfl, hf⟩
  exact ⟨by simp, ((Fr.refl No w3).alloc _).trans hf⟩
theorem retx_one {w w' : World} {X : Int → Prop} {a : Int} {e : Ending} (h : RetX w X e w') (hX : ∀ x, X x ↔ x = a) : ∃ (A : Option Addr) (c : Nat), e = .returned (.slice A 1 c) ∧ Fr No w w' := by
  obtain ⟨L, h1, h2, v', rfl, h3, h4, h5⟩ := h
  have hL := one_of h1 fun x => (h2 x).trans (hX x)
  subst hL
  obtain ⟨A, c, rfl, _⟩ := h3.form
  exact ⟨A, c, rfl, fr_at_none h4⟩
theorem reach_one (w4 : World) : Calls Try.prog 16 #[.slice (some ⟨w4.heap.size + 1, 0, none⟩) 2 2, .int .i64 0] ((w4.alloc (.cells #[.int .i64 1] 3)).alloc (.cells #[.slice (some ⟨w4.heap.size, 0, none⟩) 1 1, .slice none 0 0] 26)) fun e w' => ∃ (A : Option Addr) (c : Nat), e = .returned (.slice A 1 c) ∧ Fr No w4 w' := by
  have hb := Blk.new (w4.alloc (.cells #[.int .i64 1] 3)) 26 #[.slice (some ⟨w4.heap.size, 0, none⟩) 1 1, .slice none 0 0]
  rw [World.size_alloc] at hb
  have h := reach_any ((w4.alloc (.cells #[.int .i64 1] 3)).alloc (.cells #[.slice (some ⟨w4.heap.size, 0, none⟩) 1 1, .slice none 0 0] 26)) (fun _ => True) (some ⟨w4.heap.size + 1, 0, none⟩) 2 [[1], []] 0 (rdg2 hb ((Blk.new w4 3 #[.int .i64 1]).alloc _)) (by decide) (by decide)
  refine h.mono ?_
  intro e w' hr
  obtain ⟨A, c, rfl, hf⟩ := retx_one hr reach0
  exact ⟨A, c, rfl, (((Fr.refl No w4).alloc _).alloc _).trans hf⟩
theorem open_one (w5 : World) : Calls Try.prog 17 #[.slice (some ⟨w5.heap.size, 0, none⟩) 1 1, .slice (some ⟨w5.heap.size + 1, 0, none⟩) 1 1] ((w5.alloc (.cells #[.slice none 0 0] 26)).alloc (.cells #[.bool true] 4)) fun e w' => ∃ (A : Option Addr) (c : Nat), e = .returned (.slice A 1 c) ∧ Fr No w5 w' := by
  have hb := Blk.new (w5.alloc (.cells #[.slice none 0 0] 26)) 4 #[.bool true]
  rw [World.size_alloc] at hb
  have h := open_any2 ((w5.alloc (.cells #[.slice none 0 0] 26)).alloc (.cells #[.bool true] 4)) (fun _ => True) (fun _ => True) (some ⟨w5.heap.size, 0, none⟩) (some ⟨w5.heap.size + 1, 0, none⟩) 1 1 [[]] [true] (rdg1 ((Blk.new w5 26 #[.slice none 0 0]).alloc _)) (rd_blk hb) (by decide) (by decide) (by decide)
  refine h.mono ?_
  intro e w' hr
  obtain ⟨A, c, rfl, hf⟩ := retx_one hr open0
  exact ⟨A, c, rfl, (((Fr.refl No w5).alloc _).alloc _).trans hf⟩
set_option maxRecDepth 100000 in
set_option maxHeartbeats 4000000 in
theorem lives13 (w : World) : Calls Try.prog 9 #[] w fun e w' => e = .returned (.bool true) ∧ Fr No w w' := by
  obtain ⟨W1, hW1⟩ : ∃ W1 : World, W1 = (((w.alloc (.cells #[.int .i64 1] 3)).alloc (.cells #[.int .i64 2] 3)).alloc (.cells #[.int .i64 1] 3)).alloc (.cells #[.slice (some ⟨w.heap.size, 0, none⟩) 1 1, .slice (some ⟨w.heap.size + 1, 0, none⟩) 1 1, .slice (some ⟨w.heap.size + 1 + 1, 0, none⟩) 1 1] 26) := ⟨_, rfl⟩
  have HKN : Hid (Calls Try.prog 11 #[.slice (some ⟨w.heap.size + 1 + 1 + 1, 0, none⟩) 3 3] W1 (KnR W1 [[1], [2], [1]])) := Lib.hid (by
    refine knots_any W1 (fun _ => True) (some ⟨w.heap.size + 1 + 1 + 1, 0, none⟩) 3 3 [[1], [2], [1]] ?_ (by decide) (by decide) (by decide) (by decide)
    rw [hW1]
    exact rdg3 (four_4 (w := w)) (four_1 (w := w)) (four_2 (w := w)) (four_3 (w := w)))
  have HF1 : Hid (Fr No w W1) := Lib.hid (by rw [hW1]; exact ((((Fr.refl No w).alloc _).alloc _).alloc _).alloc _)
  go_enter Try.func9, Try.ntmps9
  go_upto_region 2 with (go_at_call 11; rw [← hW1]; (with_reducible refine HKN.out.mono ?_); rintro _ w2 ⟨L, A, c, rfl, hseq, hrd, hlc, hcm, hf2⟩; obtain rfl := hseq.det kn0; obtain ⟨ad, A1, A2, c1, c2, rfl, k1, k2, r1, r2⟩ := rdg_two hrd; have HR1 := Lib.hid r1; have HR2 := Lib.hid r2; have HF2 := Lib.hid (HF1.out.trans hf2); clear hrd r1 r2 hf2 hlc hcm hseq)
  have k1' : w2.cell? ad = some (.slice A1 2 c1) := k1
  have k2' : w2.cell? ⟨ad.block, ad.off + 1, none⟩ = some (.slice A2 1 c2) := by
    have e1 : ad.add 1 = ⟨ad.block, ad.off + 1, none⟩ := by unfold Addr.add; rfl
    rw [e1] at k2; exact k2
  have HR1' : Hid (Rd w2 (fun k => W1.heap.size ≤ k) 1 A1 2 (is_ [1, 2])) := HR1
  have HR2' : Hid (Rd w2 (fun k => W1.heap.size ≤ k) 1 A2 1 (is_ [0])) := HR2
  have e0 : ad.add 0 = ad := by unfold Addr.add; rfl
  clear k1 k2 HR1 HR2 hW1
  go_wp2_with (first
    | (go_at_call 13; (with_reducible refine (same_two HR1'.out).mono ?_); rintro _ w3 ⟨rfl, hf3⟩; have k3 := hf3.cell_some k2' (fun h => h); have HF3 := Lib.hid hf3; clear hf3)
    | (go_at_call 13; (with_reducible refine (same_one (HR2'.out.no_ HF3.out)).mono ?_); rintro _ w4 ⟨rfl, hf4⟩; have HF4 := Lib.hid hf4; clear hf4)
    | (go_at_call 16; (with_reducible refine (reach_one _).mono ?_); rintro _ w5 ⟨A5, c5, rfl, hf5⟩; have HF5 := Lib.hid hf5; clear hf5)
    | (go_at_call 17; (with_reducible refine (open_one _).mono ?_); rintro _ w6 ⟨A6, c6, rfl, hf6⟩; have HF6 := Lib.hid hf6; clear hf6))
  go_ret
  exact ⟨rfl, (((HF2.out.trans HF3.out).trans HF4.out).trans HF5.out).trans HF6.out⟩
end Go.Proofs.Ytcjofakhefpfdaa
