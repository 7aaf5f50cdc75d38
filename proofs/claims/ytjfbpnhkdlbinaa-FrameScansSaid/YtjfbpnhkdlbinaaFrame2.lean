/- Contracts of package frame: next. -/
import Derived.Test.YtjfbpnhkdlbinaaFrame
import Derived.Test.YtjfbpnhkdlbinaaFrameSpec
namespace Go.Proofs.Ytjfbpnhkdlbinaa
open Go.RowKit Go.My
set_option linter.unusedSimpArgs false
set_option linter.unusedVariables false

theorem or_size2 (a b : UInt8) : bits .or .i64 (wrap64 (a.toNat : Int)) (wrap64 (wrap64 (b.toNat : Int) * 256)) = (size2 a b : Int) := by
  have ha := a.toNat_lt
  have hb := b.toNat_lt
  have e1 : wrap64 (a.toNat : Int) = (a.toNat : Int) := IntWalk.wrap64_in _ ⟨by omega, by omega⟩
  have e2 : wrap64 (b.toNat : Int) = (b.toNat : Int) := IntWalk.wrap64_in _ ⟨by omega, by omega⟩
  have e3 : wrap64 ((b.toNat : Int) * 256) = ((256 * b.toNat : Nat) : Int) := by rw [IntWalk.wrap64_in _ ⟨by omega, by omega⟩]; omega
  rw [e2, e3, e1]
  show IntKind.i64.wrap ((BitVec.ofInt 64 (a.toNat : Int) ||| BitVec.ofInt 64 ((256 * b.toNat : Nat) : Int)).toNat : Int) = _
  rw [BitVec.ofInt_natCast, BitVec.ofInt_natCast, BitVec.toNat_or, BitVec.toNat_ofNat, BitVec.toNat_ofNat, Nat.mod_eq_of_lt (by omega), Nat.mod_eq_of_lt (by omega)]
  have e4 : a.toNat ||| 256 * b.toNat = size2 a b := by
    have := Nat.shiftLeft_add_eq_or_of_lt (i := 8) (b := a.toNat) (by omega) b.toNat
    rw [Nat.shiftLeft_eq] at this
    unfold size2
    rw [Nat.or_comm, show 256 * b.toNat = b.toNat * 2 ^ 8 by omega, ← this]
    omega
  rw [e4]
  unfold size2
  rw [IntWalk.i64_left]
  exact IntWalk.wrap64_in _ ⟨by omega, by omega⟩
theorem orN (a b : Nat) (ha : a < 4294967296) (hb : b < 4294967296) : bits .or .u32 (a : Int) (b : Int) = ((a ||| b : Nat) : Int) := by
  show IntKind.u32.wrap ((BitVec.ofInt 32 (a : Int) ||| BitVec.ofInt 32 (b : Int)).toNat : Int) = _
  rw [BitVec.ofInt_natCast, BitVec.ofInt_natCast, BitVec.toNat_or, BitVec.toNat_ofNat, BitVec.toNat_ofNat, Nat.mod_eq_of_lt (by omega), Nat.mod_eq_of_lt (by omega), IntKind.wrap_u32]
  have : a ||| b < 2 ^ 32 := Nat.or_lt_two_pow (by omega) (by omega)
  omega
theorem or_add (a b k : Nat) (ha : a < 2 ^ k) : a ||| b * 2 ^ k = a + b * 2 ^ k := by
  have := Nat.shiftLeft_add_eq_or_of_lt ha b
  rw [Nat.shiftLeft_eq] at this
  rw [Nat.or_comm, ← this, Nat.add_comm]
theorem or_val4 (a b c d : UInt8) : bits .or .u32 (bits .or .u32 (bits .or .u32 ((a.toNat : Int) % 4294967296) ((b.toNat : Int) % 4294967296 * 256 % 4294967296)) ((c.toNat : Int) % 4294967296 * 65536 % 4294967296)) ((d.toNat : Int) % 4294967296 * 16777216 % 4294967296) = (val4 a b c d : Int) := by
  have ha := a.toNat_lt
  have hb := b.toNat_lt
  have hc := c.toNat_lt
  have hd := d.toNat_lt
  have e1 : ((a.toNat : Int) % 4294967296) = ((a.toNat : Nat) : Int) := by omega
  have e2 : ((b.toNat : Int) % 4294967296 * 256 % 4294967296) = ((b.toNat * 2 ^ 8 : Nat) : Int) := by omega
  have e3 : ((c.toNat : Int) % 4294967296 * 65536 % 4294967296) = ((c.toNat * 2 ^ 16 : Nat) : Int) := by omega
  have e4 : ((d.toNat : Int) % 4294967296 * 16777216 % 4294967296) = ((d.toNat * 2 ^ 24 : Nat) : Int) := by omega
  rw [e1, e2, e3, e4, orN _ _ (by omega) (by omega), or_add _ _ _ (by omega), orN _ _ (by omega) (by omega), or_add _ _ _ (by omega), orN _ _ (by omega) (by omega), or_add _ _ _ (by omega)]
  unfold val4
  omega

theorem next_long (b : List UInt8) (n : Nat) (h : 6 + n ≤ b.length) (hn : size2 b[0] b[1] = n) (h1 : ¬ n < 1) (h2 : ¬ 4096 < n) :
    nextF b = if sumF ((b.drop 6).take n) = val4 b[2] b[3] b[4] b[5] then (0, (b.drop 6).take n) else (3, []) := by
  match b, h, hn with
  | b0 :: b1 :: c0 :: c1 :: c2 :: c3 :: r, h, hn =>
    have hn' : size2 b0 b1 = n := hn
    have hl : 6 + n ≤ r.length + 1 + 1 + 1 + 1 + 1 + 1 := h
    subst hn'
    unfold nextF
    simp only [List.getElem_cons_zero, List.getElem_cons_succ, List.drop_succ_cons, List.drop_zero]
    rw [if_neg (by omega), if_neg (by omega)]
  | [_, _, _, _, _], h, _ => have h' : 6 + n ≤ 5 := h; omega
  | [_, _, _, _], h, _ => have h' : 6 + n ≤ 4 := h; omega
  | [_, _, _], h, _ => have h' : 6 + n ≤ 3 := h; omega
  | [_, _], h, _ => have h' : 6 + n ≤ 2 := h; omega
  | [_], h, _ => have h' : 6 + n ≤ 1 := h; omega
  | [], h, _ => have h' : 6 + n ≤ 0 := h; omega
theorem next_bad (b : List UInt8) (n : Nat) (h : 2 ≤ b.length) (hn : size2 b[0] b[1] = n) (h1 : n < 1 ∨ 4096 < n) : nextF b = (3, []) := by
  match b, h, hn with
  | b0 :: b1 :: t, h, hn =>
    have hn' : size2 b0 b1 = n := hn
    subst hn'
    unfold nextF
    simp only
    rw [if_pos h1]
theorem next_short (b : List UInt8) (n : Nat) (h : 2 ≤ b.length) (hn : size2 b[0] b[1] = n) (h1 : ¬ n < 1) (h2 : ¬ 4096 < n) (hs : b.length < 6 + n) : nextF b = (4, []) := by
  match b, h, hn with
  | b0 :: b1 :: t, h, hn =>
    have hn' : size2 b0 b1 = n := hn
    have hl : t.length + 1 + 1 < 6 + n := hs
    subst hn'
    unfold nextF
    simp only
    rw [if_neg (by omega)]
    split
    · simp only [List.length_cons] at hl
      rw [if_pos (by omega)]
    · rfl

def RetNext (w : World) (F : Nat → Prop) (b : List UInt8) (e : Ending) (w' : World) : Prop :=
  ∃ A' c', e = .returned (.tuple #[.slice A' (nextF b).2.length c', .int .i64 ((nextF b).1 : Int)]) ∧ Rd w F 1 A' (nextF b).2.length (bs (nextF b).2) ∧ (nextF b).2.length ≤ c' ∧ c' ≤ maxLen ∧ Below w.heap.size w w'
theorem RetNext.bad {w : World} {F : Nat → Prop} {b : List UInt8} {e : Ending} {w' : World} (k : Nat) (h : nextF b = (k, [])) (he : e = .returned (.tuple #[.slice none 0 0, .int .i64 (k : Int)])) (hb : Below w.heap.size w w') : RetNext w F b e w' := by
  unfold RetNext
  rw [h]
  exact ⟨none, 0, he, Rd.none_, Nat.le_refl _, Nat.zero_le _, hb⟩

set_option maxRecDepth 100000 in
set_option maxHeartbeats 400000 in
theorem next_any (F : Nat → Prop) (A : Option Addr) (c : Nat) (b : List UInt8) (w : World) (hr : Rd w F 1 A b.length (bs b)) (hl : b.length ≤ c) (hc : c ≤ maxLen) :
    Calls Try.prog 62 #[.agg (tabRow 16), .slice A b.length c] w (RetNext w F b) := by
  have HM := Lib.hid hc
  have HR0 := Lib.hid hr
  obtain ⟨W1, hW1⟩ : ∃ W1, W1 = w.alloc (.cells (tabRow 16) 86) := ⟨_, rfl⟩
  have hbox : Blk W1 w.heap.size 86 (tabRow 16) := by rw [hW1]; exact Blk.new _ _ _
  have hbw1 : Below w.heap.size w W1 := by rw [hW1]; exact (Below.refl _ _).alloc (Nat.le_refl _) _
  have hr1 : Rd W1 (Lt w.heap.size) 1 A b.length (bs b) := (rd_lt hr (by omega)).below hbw1 fun _ h => h
  have HW := Lib.hid hW1
  rw [tabRow16] at HW
  clear hW1 hr
  have HBX := Lib.hid hbox
  have HBW := Lib.hid hbw1
  have HR := Lib.hid hr1
  rw [tabRow16]
  clear hbox hr1 hbw1
  have hc' : c ≤ 9223372036854775807 := by simp only [maxLen] at hc; omega
  clear hc
  by_cases h2 : b.length < 2
  · have h2' : (b.length : Int) < 2 := by omega
    have HF : Hid (nextF b = (4, [])) := by
      match b, h2 with
      | [], _ => rfl
      | [_], _ => rfl
    go_enter Try.func62, Try.ntmps62
    go_wp2
    go_ret2
    exact RetNext.bad 4 HF.out rfl (by rw [← HW.out]; exact HBW.out)
  · have h2' : ¬ (b.length : Int) < 2 := by omega
    have at_ : ∀ k (hk : k < b.length), ∃ ad, A = some ad ∧ W1.cell? (ad.add k) = some (.int .u8 (b[k].toNat : Int)) := by
      intro k hk
      obtain ⟨ad, u, e, _, hx, hc⟩ := HR.out.at_ hk
      rw [bs_get b k hk] at hx
      injection hx with hx
      subst hx
      exact ⟨ad, e, hc⟩
    obtain ⟨ad, rfl, hc0⟩ := at_ 0 (by omega)
    obtain ⟨ad', e1, hc1⟩ := at_ 1 (by omega)
    injection e1 with e1
    subst e1
    have hc0 : W1.cell? ad = some (.int .u8 (b[0].toNat : Int)) := hc0
    have hc1 : W1.cell? ⟨ad.block, ad.off + 1, none⟩ = some (.int .u8 (b[1].toNat : Int)) := hc1
    have AT := Lib.hid at_
    clear at_
    generalize hb0 : b[0] = b0 at *
    generalize hb1 : b[1] = b1 at *
    have HB0 := Lib.hid hb0
    have HB1 := Lib.hid hb1
    clear hb0 hb1
    go_enter Try.func62, Try.ntmps62
    go_wp2
    rw [← HW.out]
    go_quiet (fail)
    rw [or_size2]
    obtain ⟨n, hn⟩ : ∃ n, size2 b0 b1 = n := ⟨_, rfl⟩
    rw [hn]
    have HN : Hid (size2 b[0] b[1] = n) := by show _ = _; rw [HB0.out, HB1.out]; exact hn
    have hn2 : n ≤ 65535 := by have := b0.toNat_lt; have := b1.toNat_lt; unfold size2 at hn; omega
    clear hn
    by_cases hb : n < 1
    · have HF := Lib.hid (next_bad b n (by omega) HN.out (.inl hb))
      have d1 : ((n : Int) < 1) := by omega
      go_wp2
      go_ret2
      exact RetNext.bad 3 HF.out rfl (below_drewN HBW.out _)
    by_cases hb' : 4096 < n
    · have HF := Lib.hid (next_bad b n (by omega) HN.out (.inr hb'))
      have d1 : ¬ ((n : Int) < 1) := by omega
      have d2 : ((4096 : Int) < n) := by omega
      go_wp2
      go_ret2
      exact RetNext.bad 3 HF.out rfl (below_drewN HBW.out _)
    have d1 : ¬ ((n : Int) < 1) := by omega
    have d2 : ¬ ((4096 : Int) < n) := by omega
    by_cases hs : b.length < 6 + n
    · have HF := Lib.hid (next_short b n (by omega) HN.out hb hb' hs)
      have d3 : (b.length : Int) < 6 + n := by omega
      go_wp2
      go_ret2
      exact RetNext.bad 4 HF.out rfl (below_drewN HBW.out _)
    have d3 : ¬ (b.length : Int) < 6 + n := by omega
    have cat : ∀ k (hk : k < b.length) (hp : 0 < k), W1.cell? ⟨ad.block, ad.off + k, none⟩ = some (.int .u8 (b[k].toNat : Int)) := by
      intro k hk hp
      obtain ⟨ad', e, h⟩ := AT.out k hk
      injection e with e
      subst e
      unfold Addr.add at h
      rwa [if_neg (by omega)] at h
    have k2 := cat 2 (by omega) (by omega)
    have k3 := cat 3 (by omega) (by omega)
    have k4 := cat 4 (by omega) (by omega)
    have k5 := cat 5 (by omega) (by omega)
    clear cat
    generalize hb2 : b[2] = b2 at *
    generalize hb3 : b[3] = b3 at *
    generalize hb4 : b[4] = b4 at *
    generalize hb5 : b[5] = b5 at *
    have HN4 : Hid (nextF b = if sumF ((b.drop 6).take n) = val4 b2 b3 b4 b5 then (0, (b.drop 6).take n) else (3, [])) := by
      have := next_long b n (by omega) HN.out hb hb'
      rwa [hb2, hb3, hb4, hb5] at this
    clear hb2 hb3 hb4 hb5
    go_wp2_with fail
    go_quiet (fail)
    rw [or_val4]
    have hlen : ((b.drop 6).take n).length = n := by simp; omega
    have hRD : Rd W1 (Lt w.heap.size) 1 (some ⟨ad.block, ad.off + 6, none⟩) ((b.drop 6).take n).length (bs ((b.drop 6).take n)) := by
      have h1 := HR.out.cut (k := 6) (cap := c) (by omega) hl
      rw [if_neg (by omega)] at h1
      have h2 := h1.take (k := n) (by omega)
      rw [Nat.mul_one, Nat.mul_one, ← bs_drop, ← bs_take] at h2
      rw [hlen]
      exact h2
    have hRD0 : Rd w F 1 (some ⟨ad.block, ad.off + 6, none⟩) ((b.drop 6).take n).length (bs ((b.drop 6).take n)) := by
      have h1 := HR0.out.cut (k := 6) (cap := c) (by omega) hl
      rw [if_neg (by omega)] at h1
      have h2 := h1.take (k := n) (by omega)
      rw [Nat.mul_one, Nat.mul_one, ← bs_drop, ← bs_take] at h2
      rw [hlen]
      exact h2
    have HRD := Lib.hid hRD
    have HRD0 := Lib.hid hRD0
    have hsz : ((b.drop 6).take n).length ≤ 9223372036854775807 := by omega
    have H6 : 6 + n - 6 = ((b.drop 6).take n).length := by omega
    have HSZ := Lib.hid hsz
    have HLE := Lib.hid hlen
    generalize (b.drop 6).take n = dat at *
    clear hRD hRD0 hsz
    have hb1 := HBX.out
    rw [tabRow16] at hb1
    have q0 := hb1.cell 0
    have q1 := hb1.cell 1
    have q2 := hb1.cell 2
    have q3 := hb1.cell 3
    have q4 := hb1.cell 4
    have q5 := hb1.cell 5
    have q6 := hb1.cell 6
    have q7 := hb1.cell 7
    have q8 := hb1.cell 8
    have q9 := hb1.cell 9
    have q10 := hb1.cell 10
    have q11 := hb1.cell 11
    have q12 := hb1.cell 12
    have q13 := hb1.cell 13
    have q14 := hb1.cell 14
    have q15 := hb1.cell 15
    simp at q0 q1 q2 q3 q4 q5 q6 q7 q8 q9 q10 q11 q12 q13 q14 q15
    clear hb1
    generalize hv4 : val4 b2 b3 b4 b5 = want at *
    clear hlen hv4
    go_wp2_with fail
    rw [H6, ← tabRow16]
    refine (sum_any _ _ _ dat _ (Rd.drewN HRD.out _) HSZ.out).mono ?_
    rintro e w2 ⟨rfl, hb2⟩
    have HB2 := Lib.hid (below_fresh (below_drewN HBW.out _) hb2 (by have := HBW.out.size; exact this))
    clear hb2 H6
    by_cases heq : sumF dat = want
    · have hne : ((sumF dat : Int) != (want : Int)) = false := by rw [bne_eq_false_iff_eq]; omega
      have HEQ := Lib.hid heq
      clear heq
      go_wp2
      go_ret2
      have h4 := HN4.out
      rw [if_pos HEQ.out] at h4
      unfold RetNext
      rw [h4]
      exact ⟨_, _, rfl, HRD0.out, by have := HLE.out; simp only; omega, by have := HM.out; omega, HB2.out⟩
    · have hne : ((sumF dat : Int) != (want : Int)) = true := by rw [bne_iff_ne]; omega
      have HEQ := Lib.hid heq
      clear heq
      go_wp2
      go_ret2
      have h4 := HN4.out
      rw [if_neg HEQ.out] at h4
      exact RetNext.bad 3 h4 rfl HB2.out
end Go.Proofs.Ytjfbpnhkdlbinaa
