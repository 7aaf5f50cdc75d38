/- The laws of package pack, as walks: they return true and change nothing that was there. -/
import Derived.Test.YtjfbpnhkdlbinaaPackR
namespace Go.Proofs.Ytjfbpnhkdlbinaa
open Go.RowKit Go.My
set_option linter.unusedSimpArgs false
set_option linter.unusedVariables false

theorem numM1 (w : World) : Calls Try.prog 55 #[.int .i64 (-1)] w (RetOwn w 5 1 none 1 (bs [1])) := num_any (-1) w (by omega) (by omega)
theorem textAb (w : World) : Calls Try.prog 18 #[.string ⟨#[97, 98]⟩] w (RetOwn w 5 1 none 3 (bs [4, 97, 98])) := text_any ⟨#[97, 98]⟩ w (by decide)
theorem readM1 (p q : Nat) (w : World) (h : Rdr w p q [1, 4, 97, 98] 0) : Calls Try.prog 27 #[.pointer (some ⟨p, 0, none⟩)] w (RetR w p q (.tuple #[.int .i64 (-1), .int .i64 0]) [4, 97, 98] 0) :=
  rnum_at p q [1, 4, 97, 98] 0 w h (by omega)
theorem readAb (p q : Nat) (w : World) (h : Rdr w p q [4, 97, 98] 0) : Calls Try.prog 22 #[.pointer (some ⟨p, 0, none⟩), .int .i64 5] w (RetR w p q (.tuple #[.string ⟨#[97, 98]⟩, .int .i64 0]) [] 0) :=
  rtext_at p q 5 [4, 97, 98] 0 w h (by omega)
theorem doneAb (p q : Nat) (w : World) (h : Rdr w p q [] 0) : Calls Try.prog 23 #[.pointer (some ⟨p, 0, none⟩)] w (RetR w p q (.int .i64 0) [] 0) :=
  done_at p q [] 0 w h (by omega)

theorem newOf (v : Value) (l : List UInt8) (w : World) (h : Own w 5 1 v l.length (bs l)) (hsz : l.length ≤ 140737488355328) : Calls Try.prog 19 #[v] w (RetNew w l) := by
  obtain ⟨A, c, rfl, _, _⟩ := h.form
  exact new_any _ A c l w h.rd hsz

set_option maxHeartbeats 1000000 in
theorem livesP (w : World) : Calls Try.prog 16 #[] w (RetTrue w) := by
  go_enter Try.func16, Try.ntmps16
  go_wp2_with fail
  refine (numM1 _).mono ?_
  rintro e w1 ⟨v1, rfl, ho1, hf1, hn1⟩
  have hn1' := newer_none hn1
  have hb1 : Below w.heap.size w w1 := hf1.below fun k _ h => by simp [AtO] at h
  have hs1 := hb1.size
  go_wp2_with fail
  refine (textAb _).mono ?_
  rintro e w2 ⟨v2, rfl, ho2, hf2, hn2⟩
  have hb2 : Below w.heap.size w w2 := below_fr hb1 hf2 hs1 (fun i hi => by simp [AtO] at hi)
  have hs2 := hb2.size
  have ho1' := ho1.fr hf2 (fun k _ h => by simp [AtO] at h)
  clear hf1 hf2 hn1 hn2 ho1
  go_wp2_with (first | (at_builtin; refine wpList_app _ rfl (.tmp 6) (.tmp 7) 25 25 rfl elB ho1' rfl (srcOf ho2) rfl (by simp only [maxLen]; omega) (by omega) ?_; intro v3 w3 ho3 hf3 hn3))
  have hb3 : Below w.heap.size w w3 := below_fr hb2 hf3 hs2 (fun i hi => hn1' i hi)
  have hs3 := hb3.size
  refine (newOf v3 [1, 4, 97, 98] _ ho3 (by simp)).mono ?_
  rintro e w4 ⟨p, q, rfl, hr4, hf4, hp, hq⟩
  have hb4 : Below w.heap.size w w4 := below_fr hb3 hf4 hs3 (fun i hi => False.elim hi)
  have hs4 := hb4.size
  have hpp : ∀ i, At1 p i → w.heap.size ≤ i := fun i hi => by rw [At1] at hi; omega
  clear hf3 hf4 hn3 ho3 ho1' ho2 hn1'
  go_wp2_with fail
  refine (readM1 p q _ hr4).mono ?_
  rintro e w5 ⟨rfl, hr5, hf5⟩
  have hb5 : Below w.heap.size w w5 := below_fr hb4 hf5 hs4 hpp
  have hs5 := hb5.size
  go_wp2_with fail
  refine (readAb p q _ hr5).mono ?_
  rintro e w6 ⟨rfl, hr6, hf6⟩
  have hb6 : Below w.heap.size w w6 := below_fr hb5 hf6 hs5 hpp
  have hs6 := hb6.size
  clear hr4 hf5 hf6 hr5
  go_wp2_with fail
  refine (doneAb p q _ hr6).mono ?_
  rintro e w7 ⟨rfl, hr7, hf7⟩
  have hb7 : Below w.heap.size w w7 := below_fr hb6 hf7 hs6 hpp
  have hs7 := hb7.size
  go_wp2_with fail
  refine (numM1 _).mono ?_
  rintro e w8 ⟨v8, rfl, ho8, hf8, hn8⟩
  obtain ⟨A, c, rfl, _, _⟩ := ho8.form
  go_wp2
  go_ret
  exact ⟨rfl, below_fr hb7 hf8 hs7 (fun i hi => by simp [AtO] at hi)⟩

set_option maxHeartbeats 1000000 in
theorem packNil_walk (n m : Int) (w : World) (_ : -9223372036854775808 ≤ n ∧ n ≤ 9223372036854775807) (_ : -9223372036854775808 ≤ m ∧ m ≤ 9223372036854775807) : Calls Try.prog 5 #[.int .i64 n, .int .i64 m] w (RetTrue w) := by
  go_enter Try.func5, Try.ntmps5
  go_wp2_with (first
    | (go_at_call 16; refine (livesP _).mono ?_; rintro e w1 ⟨rfl, hb⟩)
    | (go_at_call 27; refine (num_nil _).mono ?_; rintro e w' ⟨rfl, rfl⟩; unfold two)
    | (go_at_call 28; refine (range_nil _ _ _).mono ?_; rintro e w' ⟨rfl, rfl⟩; unfold two)
    | (go_at_call 22; refine (text_nil _ _).mono ?_; rintro e w' ⟨rfl, rfl⟩; unfold twoS)
    | (go_at_call 20; refine (nums_nil _ _).mono ?_; rintro e w' ⟨rfl, rfl⟩)
    | (go_at_call 24; refine (left_nil _).mono ?_; rintro e w' ⟨rfl, rfl⟩)
    | (go_at_call 23; refine (done_nil _).mono ?_; rintro e w' ⟨rfl, rfl⟩))
  go_ret
  exact ⟨rfl, hb⟩
end Go.Proofs.Ytjfbpnhkdlbinaa
