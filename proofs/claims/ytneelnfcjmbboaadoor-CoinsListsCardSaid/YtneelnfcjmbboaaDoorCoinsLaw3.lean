/- The laws of package coins, as walks: CoinsBack. -/
import Derived.Test.YtneelnfcjmbboaaDoorCoins5
namespace Go.Proofs.YtneelnfcjmbboaaDoor
open Go.RowKit Go.My Go.Sort
set_option linter.unusedSimpArgs false
set_option linter.unusedVariables false

theorem total_shares (q : Int) (r n : Nat) : total ((List.range n).map fun i : Nat => q + if (i : Int) < (r : Int) then 1 else 0) = q * n + ((min n r : Nat) : Int) := by
  induction n with
  | zero => simp [total_nil]
  | succ n ih =>
    rw [List.range_succ, List.map_append, total_append, ih]
    simp only [List.map_cons, List.map_nil, total_cons, total_nil]
    rw [Int.natCast_add, Int.mul_add]
    split <;> omega
theorem share_total (a : Int) (p : Nat) (hp : 1 ≤ p) : total (shareF a p) = a := by
  have h1 := Int.mul_ediv_add_emod a p
  have h2 : 0 ≤ a % (p : Int) := Int.emod_nonneg _ (by omega)
  have h3 : a % (p : Int) < p := Int.emod_lt_of_pos _ (by omega)
  obtain ⟨r, hr⟩ := Int.eq_ofNat_of_zero_le h2
  unfold shareF
  rw [hr, total_shares, Nat.min_eq_right (by omega), Int.mul_comm, ← hr]
  exact h1
theorem share_in (a : Int) (p : Nat) (ha : In64 a) (hp : 1 ≤ p) : ∀ x ∈ shareF a p, In64 x := by
  intro x hx
  unfold shareF at hx
  obtain ⟨i, hi, rfl⟩ := List.mem_map.1 hx
  have h1 := div_bd a p (by omega)
  have h2 := div_lt a p (by omega)
  have h3 : 0 ≤ a % (p : Int) := Int.emod_nonneg _ (by omega)
  unfold In64 at ha ⊢
  rcases Int.lt_or_le a 0 with h | h
  · have := h1.2 h
    split <;> omega
  · have := h1.1 h
    split
    · have := h2 h (by omega)
      omega
    · omega
theorem share_at (a : Int) (p k : Nat) (hk : k < p) : ∃ x, (shareF a p)[k]? = some x ∧ x = a / (p : Int) + if (k : Int) < a % (p : Int) then 1 else 0 := ⟨_, shareF_get a p k hk, rfl⟩

def BackRel (w : World) (p : Nat) (iv : Value) (wr : World) : Prop :=
  ∃ k j : Nat, k < p ∧ iv = .int .i64 ((k : Int) + 1) ∧ wr = w.drewN j

set_option maxHeartbeats 1000000 in
theorem coinsBack_walk (a b m : Int) (w : World) (ha : -9223372036854775808 ≤ a ∧ a ≤ 9223372036854775807) (hb : -9223372036854775808 ≤ b ∧ b ≤ 9223372036854775807) (hm : -9223372036854775808 ≤ m ∧ m ≤ 9223372036854775807) (ht : Tab w) :
    Calls Tryd.prog 6 #[.int .i64 a, .int .i64 b, .int .i64 m] w (RetTrue w) := by
  obtain ⟨n, hn, hnl⟩ := umod m 100 (by omega) (by omega)
  have e : (IntKind.u64.wrap m).tmod ((100 : Nat) : Int) = (IntKind.u64.wrap m).tmod 100 := rfl
  rw [e] at hn
  have HADD := Lib.hid fun W => add_any a b W ha hb
  have HLESS := Lib.hid fun c (hc : In64 c) W => less_any c b W hc hb
  have HTX := Lib.hid fun W hW => text_any a m W ha (tab_below ht hW)
  have HRD := Lib.hid fun W hW => read_text a m W ha (tab_below ht hW)
  obtain ⟨p, hp⟩ : ∃ p, p = n + 1 := ⟨_, rfl⟩
  have hp' : 1 + (n : Int) = (p : Int) := by omega
  have hp1 : 1 ≤ p := by omega
  have hp2 : p ≤ 100 := by omega
  clear hp
  have HSH := Lib.hid fun W => share_any a p W ha hp1 hp2
  have HTOT : Hid (∀ F W A c, Rd W F 1 A p (is_ (shareF a p)) → Calls Tryd.prog 22 #[.slice A p c] W fun e w' => e = .returned (.tuple #[.int .i64 a, .int .i64 0]) ∧ W = w') := fun F W A c hr => by
    have h := total_any F A c (shareF a p) W (by rw [shareF_length]; exact hr) (share_in a p ha hp1) (by rw [shareF_length]; omega)
    rw [shareF_length, share_total a p hp1, two64_in ha] at h
    exact h
  have HC : Hid ((a + b + -b = a ∧ In64 (a + b)) ∨ ¬ In64 (a + b)) := by
    show _ ∨ _
    by_cases h : In64 (a + b)
    · exact .inl ⟨by omega, h⟩
    · exact .inr h
  have HZ : Hid (In64 0) := by show In64 0; decide
  have HM : Hid (∀ k, k + 1 < p → ∃ x0 x y, (shareF a p)[0]? = some x0 ∧ (shareF a p)[k]? = some x ∧ (shareF a p)[k + 1]? = some y ∧ ¬ x < y ∧ 0 ≤ x0 - y ∧ x0 - y ≤ 1) := fun k hk => by
    obtain ⟨x0, h0, e0⟩ := share_at a p 0 (by omega)
    obtain ⟨x, h1, e1⟩ := share_at a p k (by omega)
    obtain ⟨y, h2, e2⟩ := share_at a p (k + 1) (by omega)
    refine ⟨x0, x, y, h0, h1, h2, ?_, ?_, ?_⟩ <;> subst e0 <;> subst e1 <;> subst e2 <;> (repeat' split) <;> omega
  have ha2 := Lib.hid ha
  clear ha hb hm e ht
  go_enter Tryd.func6, Tryd.ntmps6
  go_wp2_with fail
  refine (livesC _).mono ?_
  rintro e w1 ⟨rfl, hb1⟩
  go_wp2_with fail
  refine (HADD.out _).mono ?_
  rintro e w2 ⟨rfl, rfl⟩
  have HB1 := Lib.hid hb1
  rcases HC.out with ⟨hs, hi⟩ | hi
  · rw [two64_in hi]
    have HL := Lib.hid (fun W => HLESS.out (a + b) hi W)
    rw [show a + b - b = a by omega, two64_in ha2.out] at HL
    clear hs hi HC HLESS HADD
    go_wp2_with fail
    refine (HL.out _).mono ?_
    rintro e w2 ⟨rfl, rfl⟩
    go_wp2_with (first | (go_at_call 20; refine (HTX.out _ hb1).mono ?_; rintro e w3 ⟨rfl, hb3⟩; have hb3' := below_fresh hb1 hb3 hb1.size) | (go_at_call 18; refine (HRD.out _ hb3').mono ?_; rintro e w4 ⟨rfl, hb4⟩; have hb4' := below_fresh hb3' hb4 hb3'.size))
    refine (HSH.out _).mono ?_
    rintro e w5 ⟨A5, rfl, hr5, hb5⟩
    have hb5' := below_fresh hb4' hb5 hb4'.size
    go_wp2_with fail
    refine (HTOT.out _ _ _ _ hr5).mono ?_
    rintro e w6 ⟨rfl, rfl⟩
    have HR5 := Lib.hid hr5
    have HB5 := Lib.hid hb5'
    clear hb1 hb3 hb3' hb4 hb4' hb5 hb5' hr5 hn HB1 HTX HRD HSH HTOT HL
    go_wp2
    go_loopw [18] (fun iv wr => BackRel w5 p iv wr) (fun iv _ => p - (intOf iv).toNat)
    case atStart => exact ⟨0, 0, by omega, rfl, rfl⟩
    case round =>
      obtain ⟨k, j, hk, rfl, rfl⟩ := hrel
      by_cases hlt : k + 1 < p
      · have hlt' : (k : Int) + 1 < p := by omega
        obtain ⟨x0, x, y, h0, h1, h2, h3, h4, h5⟩ := HM.out k hlt
        obtain ⟨ad, u0, rfl, _, hu0, hc0⟩ := HR5.out.at_ (k := 0) (by omega)
        obtain ⟨ad1, u1, hAD1, _, hu1, hc1⟩ := HR5.out.at_ (k := k) (by omega)
        obtain ⟨ad2, u2, hAD2, _, hu2, hc2⟩ := HR5.out.at_ (k := k + 1) hlt
        injection hAD1 with hAD1
        injection hAD2 with hAD2
        subst hAD1
        subst hAD2
        simp only [is_, List.getElem?_map, h0, Option.map_some, Option.some.injEq] at hu0
        simp only [is_, List.getElem?_map, h1, Option.map_some, Option.some.injEq] at hu1
        simp only [is_, List.getElem?_map, h2, Option.map_some, Option.some.injEq] at hu2
        subst hu0
        subst hu1
        subst hu2
        have hd0 : w5.cell? (ad.add 0) = some (.int .i64 x0) := hc0
        have hd1 : w5.cell? (ad.add k) = some (.int .i64 x) := hc1
        have hd2 : w5.cell? ⟨ad.block, ad.off + (k + 1), none⟩ = some (.int .i64 y) := by
          have e : ad.add (k + 1) = ⟨ad.block, ad.off + (k + 1), none⟩ := by unfold Addr.add; rw [if_neg (by omega)]
          rw [e] at hc2
          exact hc2
        have hd3 : w5.cell? ad = some (.int .i64 x0) := by
          have e : ad.add 0 = ad := by unfold Addr.add; rw [if_pos rfl]
          rw [e] at hc0
          exact hc0
        have h6 : y ≤ x := by omega
        have h7 : decide (x < y) = false := by rw [decide_eq_false_iff_not]; omega
        clear h0 h1 h2 hc0 hc1 hc2 HM
        go_wp2
        go_quiet (fail)
        go_wp2
        go_roundw
        case rel => exact ⟨k + 1, _, hlt, by go_num, rfl⟩
        case measure => simp [intOf]; omega
      · have hlt' : ¬ (k : Int) + 1 < p := by omega
        go_wp2
        go_ret
        exact ⟨rfl, below_drewN HB5.out _⟩
  · rw [two64_out hi]
    have HL := Lib.hid (fun W => HLESS.out 0 HZ.out W)
    unfold two64 at HL
    generalize sumV (0 - b) = v9 at *
    generalize ((sumN (0 - b) : Nat) : Int) = e9 at *
    clear hi HC HLESS HADD
    go_wp2_with fail
    refine (HL.out _).mono ?_
    rintro e w2 ⟨rfl, rfl⟩
    go_wp2_with (first | (go_at_call 20; refine (HTX.out _ hb1).mono ?_; rintro e w3 ⟨rfl, hb3⟩; have hb3' := below_fresh hb1 hb3 hb1.size) | (go_at_call 18; refine (HRD.out _ hb3').mono ?_; rintro e w4 ⟨rfl, hb4⟩; have hb4' := below_fresh hb3' hb4 hb3'.size))
    refine (HSH.out _).mono ?_
    rintro e w5 ⟨A5, rfl, hr5, hb5⟩
    have hb5' := below_fresh hb4' hb5 hb4'.size
    go_wp2_with fail
    refine (HTOT.out _ _ _ _ hr5).mono ?_
    rintro e w6 ⟨rfl, rfl⟩
    have HR5 := Lib.hid hr5
    have HB5 := Lib.hid hb5'
    clear hb1 hb3 hb3' hb4 hb4' hb5 hb5' hr5 hn HB1 HTX HRD HSH HTOT HL
    go_wp2
    go_loopw [18] (fun iv wr => BackRel w5 p iv wr) (fun iv _ => p - (intOf iv).toNat)
    case atStart => exact ⟨0, 0, by omega, rfl, rfl⟩
    case round =>
      obtain ⟨k, j, hk, rfl, rfl⟩ := hrel
      by_cases hlt : k + 1 < p
      · have hlt' : (k : Int) + 1 < p := by omega
        obtain ⟨x0, x, y, h0, h1, h2, h3, h4, h5⟩ := HM.out k hlt
        obtain ⟨ad, u0, rfl, _, hu0, hc0⟩ := HR5.out.at_ (k := 0) (by omega)
        obtain ⟨ad1, u1, hAD1, _, hu1, hc1⟩ := HR5.out.at_ (k := k) (by omega)
        obtain ⟨ad2, u2, hAD2, _, hu2, hc2⟩ := HR5.out.at_ (k := k + 1) hlt
        injection hAD1 with hAD1
        injection hAD2 with hAD2
        subst hAD1
        subst hAD2
        simp only [is_, List.getElem?_map, h0, Option.map_some, Option.some.injEq] at hu0
        simp only [is_, List.getElem?_map, h1, Option.map_some, Option.some.injEq] at hu1
        simp only [is_, List.getElem?_map, h2, Option.map_some, Option.some.injEq] at hu2
        subst hu0
        subst hu1
        subst hu2
        have hd0 : w5.cell? (ad.add 0) = some (.int .i64 x0) := hc0
        have hd1 : w5.cell? (ad.add k) = some (.int .i64 x) := hc1
        have hd2 : w5.cell? ⟨ad.block, ad.off + (k + 1), none⟩ = some (.int .i64 y) := by
          have e : ad.add (k + 1) = ⟨ad.block, ad.off + (k + 1), none⟩ := by unfold Addr.add; rw [if_neg (by omega)]
          rw [e] at hc2
          exact hc2
        have hd3 : w5.cell? ad = some (.int .i64 x0) := by
          have e : ad.add 0 = ad := by unfold Addr.add; rw [if_pos rfl]
          rw [e] at hc0
          exact hc0
        have h6 : y ≤ x := by omega
        have h7 : decide (x < y) = false := by rw [decide_eq_false_iff_not]; omega
        clear h0 h1 h2 hc0 hc1 hc2 HM
        go_wp2
        go_quiet (fail)
        go_wp2
        go_roundw
        case rel => exact ⟨k + 1, _, hlt, by go_num, rfl⟩
        case measure => simp [intOf]; omega
      · have hlt' : ¬ (k : Int) + 1 < p := by omega
        go_wp2
        go_ret
        exact ⟨rfl, below_drewN HB5.out _⟩
end Go.Proofs.YtneelnfcjmbboaaDoor
