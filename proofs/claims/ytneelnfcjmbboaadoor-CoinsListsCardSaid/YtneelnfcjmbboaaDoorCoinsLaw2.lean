/- The laws of package coins, as walks: CoinsTimes, CoinsOrder. -/
import Derived.Test.YtneelnfcjmbboaaDoorCoinsLaw
namespace Go.Proofs.YtneelnfcjmbboaaDoor
open Go.RowKit Go.My
set_option linter.unusedSimpArgs false
set_option linter.unusedVariables false

def RepRel (w : World) (a : Int) (n : Nat) (lv iv : Value) (wr : World) : Prop :=
  ∃ k : Nat, k ≤ n ∧ iv = .int .i64 k ∧ Own wr 2 1 lv k (is_ (List.replicate k a)) ∧ Fr No w wr ∧ Newer w.heap.size none lv.ownBlock

set_option maxHeartbeats 1000000 in
theorem coinsTimes_walk (a m : Int) (w : World) (ha : -9223372036854775808 ≤ a ∧ a ≤ 9223372036854775807) (hm : -9223372036854775808 ≤ m ∧ m ≤ 9223372036854775807) :
    Calls Tryd.prog 8 #[.int .i64 a, .int .i64 m] w (RetTrue w) := by
  obtain ⟨n, hn, hnl⟩ := umod m 100 (by omega) (by omega)
  have e : (IntKind.u64.wrap m).tmod ((100 : Nat) : Int) = (IntKind.u64.wrap m).tmod 100 := rfl
  rw [e] at hn
  have hT1 := fun W => times_any a n W ha (by unfold In64; omega)
  have hT2 := fun W => times_any n a W (by unfold In64; omega) ha
  have hT3 := fun W => times_any a 2 W ha (by decide)
  have hT4 := fun W => add_any a a W ha ha
  have hT5 : ∀ (W : World) (A : Option Addr) (c : Nat), Own W 2 1 (.slice A n c) n (is_ (List.replicate n a)) → Calls Tryd.prog 22 #[.slice A n c] W fun e w' => e = .returned (two64 (a * n)) ∧ W = w' := by
    intro W A c h
    have h1 := total_any (fun k => (Value.slice A n c).ownBlock = some k) A c (List.replicate n a) W (by rw [List.length_replicate]; exact h.rd) (fun x hx => by rw [List.eq_of_mem_replicate hx]; exact ha) (by rw [List.length_replicate]; omega)
    rw [List.length_replicate, total_replicate] at h1
    exact h1
  rw [Int.mul_comm (n : Int) a] at hT2
  rw [show a * 2 = a + a by omega] at hT3
  unfold two64 at hT1 hT2 hT3 hT4 hT5
  generalize sumV (a * n) = v1 at *
  generalize ((sumN (a * n) : Nat) : Int) = e1 at *
  generalize sumV (a + a) = v2 at *
  generalize ((sumN (a + a) : Nat) : Int) = e2 at *
  have H1 := Lib.hid hT1
  have H2 := Lib.hid hT2
  have H3 := Lib.hid hT3
  have H4 := Lib.hid hT4
  have H5 := Lib.hid hT5
  clear hT1 hT2 hT3 hT4 hT5 ha hm e
  go_enter Tryd.func8, Tryd.ntmps8
  go_wp2_with fail
  refine (livesC _).mono ?_
  rintro e w1 ⟨rfl, hb1⟩
  have HB1 := Lib.hid hb1
  clear hb1
  go_upto_region 4 with (fail)
  rw [hn]
  clear hn
  go_wp2
  go_loopw [5, 6] (fun lv iv wr => RepRel w1 a n lv iv wr) (fun _ iv _ => n - (intOf iv).toNat)
  case atStart => exact ⟨0, Nat.zero_le _, rfl, Own.nil _ _ _, Fr.refl _ _, .inl rfl⟩
  case round =>
    obtain ⟨k, hk, rfl, hown, hfr, hnew⟩ := hrel
    by_cases hlt : k < n
    · have hX : Hid (k + 1 ≤ maxLen ∧ (k + 1) * 8 ≤ 140737488355328) := by
        refine ⟨?_, ?_⟩ <;> (try simp only [maxLen]) <;> omega
      go_wp2_with (at_builtin; refine wpList_app _ rfl (.tmp 28) (.tmp 30) 30 30 rfl elI (hown.alloc _) rfl (Src.of_new wr.heap.size (heap_alloc_new wr _) Tryd.underlying30 rfl (by simp [Value.oneCell'])) rfl hX.out.1 hX.out.2 ?_; intro v1 w3 hown3 hfr3 hnew3)
      go_roundw
      case rel =>
        refine ⟨k + 1, by omega, by go_num, ?_, ?_, ?_⟩
        · rw [List.replicate_succ', is_append]
          exact hown3
        · exact fr_no (hfr.alloc _) hnew hfr3
        · exact hnew.trans (Newer.of hnew3) (by have := hfr.size; simp; omega)
      case measure => simp [intOf]; omega
    · obtain rfl : k = n := by omega
      obtain ⟨A, c, rfl, hc1, hc2⟩ := hown.form
      have HO := Lib.hid hown
      have HF := Lib.hid hfr
      clear hown hfr hnew
      go_wp2_with fail
      refine (H1.out _).mono ?_
      rintro e w2 ⟨rfl, rfl⟩
      go_wp2_with fail
      refine (H5.out _ A c HO.out).mono ?_
      rintro e w2 ⟨rfl, rfl⟩
      go_wp2_with fail
      refine (H2.out _).mono ?_
      rintro e w2 ⟨rfl, rfl⟩
      go_wp2_with fail
      refine (H3.out _).mono ?_
      rintro e w2 ⟨rfl, rfl⟩
      go_wp2_with fail
      refine (H4.out _).mono ?_
      rintro e w2 ⟨rfl, rfl⟩
      go_wp2
      go_ret
      exact ⟨rfl, below_fr_no HB1.out HF.out HB1.out.size⟩

theorem is_take (l : List Int) (k : Nat) : is_ (l.take k) = (is_ l).take k := by simp [is_]
theorem is_drop (l : List Int) (k : Nat) : is_ (l.drop k) = (is_ l).drop k := by simp [is_]
theorem sumN_cases (x : Int) : (In64 x ∧ ((sumN x : Nat) : Int) = 0) ∨ (¬ In64 x ∧ ((sumN x : Nat) : Int) = 2) := by
  by_cases h : In64 x
  · exact .inl ⟨h, by rw [sumN_in h]; rfl⟩
  · exact .inr ⟨h, by rw [sumN_out h]; rfl⟩

set_option maxHeartbeats 0 in
theorem coinsOrder_walk (A : Option Addr) (c : Nat) (l : List Int) (m : Int) (w : World) (rd : Rd w (Lt w.heap.size) 1 A l.length (is_ l)) (lc : l.length ≤ c) (cm : c ≤ maxLen) (hI : I64s l)
    (hm : -9223372036854775808 ≤ m ∧ m ≤ 9223372036854775807) :
    Calls Tryd.prog 7 #[.slice A l.length c, .int .i64 m] w (RetTrue w) := by
  have hcm : c ≤ 9223372036854775807 := by simp only [maxLen] at cm; omega
  have hmin : min (l.length : Int) 100 = ((min l.length 100 : Nat) : Int) := by omega
  have hmx : max ((min l.length 100 : Nat) : Int) 0 = ((min l.length 100 : Nat) : Int) := by omega
  obtain ⟨L, hL, hLl, rdL, hIL⟩ : ∃ L : List Int, L.length = min l.length 100 ∧ L.length ≤ 100 ∧ Rd w (Lt w.heap.size) 1 A (min l.length 100) (is_ L) ∧ ∀ x ∈ L, In64 x := by
    refine ⟨l.take (min l.length 100), by simp, by simp; omega, ?_, fun x hx => hI x (List.mem_of_mem_take hx)⟩
    have := rd.take (k := min l.length 100) (by omega)
    simpa [is_] using this
  rw [← hL] at rdL hmin hmx
  have hNc : L.length ≤ c := by omega
  obtain ⟨k, hk, hkl⟩ := umod m (L.length + 1) (by omega) (by omega)
  have hk' : wrap64 ((IntKind.u64.wrap m).tmod ((L.length : Int) + 1)) = (k : Int) := hk
  have hkN : k ≤ L.length := by omega
  have rdT : Rd w (Lt w.heap.size) 1 A k (is_ (L.take k)) := by
    have := rdL.take (k := k) hkN
    rwa [Nat.mul_one, ← is_take] at this
  obtain ⟨X, hX⟩ : ∃ X, X = if c = k then A else A.map (·.add k) := ⟨_, rfl⟩
  have rdD : Rd w (Lt w.heap.size) 1 X (L.length - k) (is_ (L.drop k)) := by
    have := rdL.cut (k := k) (cap := c) hkN hNc
    rw [Nat.mul_one, ← is_drop] at this
    rwa [hX]
  have hlT : (L.take k).length = k := by simp; omega
  have hlD : (L.drop k).length = L.length - k := by simp
  have hIT : ∀ x ∈ L.take k, In64 x := fun x hx => hIL x (List.mem_of_mem_take hx)
  have hID : ∀ x ∈ L.drop k, In64 x := fun x hx => hIL x (List.mem_of_mem_drop hx)
  have hsum : total L = total (L.take k) + total (L.drop k) := by rw [← total_append, List.take_append_drop]
  have hsum2 : total (L.drop k ++ L.take k) = total L := by rw [hsum, total_append]; omega
  have hT1 : Hid (∀ W c', Below w.heap.size w W → Calls Tryd.prog 22 #[.slice A L.length c'] W fun e w' => e = .returned (two64 (total L)) ∧ W = w') := fun W c' hb =>
    total_any (Lt w.heap.size) A c' L W (rdL.below hb fun _ h => h) hIL (by omega)
  have hT2 : Hid (∀ W c', Below w.heap.size w W → Calls Tryd.prog 22 #[.slice A k c'] W fun e w' => e = .returned (two64 (total (L.take k))) ∧ W = w') := fun W c' hb => by
    have h := total_any (Lt w.heap.size) A c' (L.take k) W (by rw [hlT]; exact rdT.below hb fun _ h => h) hIT (by omega)
    rwa [hlT] at h
  have hT3 : Hid (∀ W c', Below w.heap.size w W → Calls Tryd.prog 22 #[.slice X (L.length - k) c'] W fun e w' => e = .returned (two64 (total (L.drop k))) ∧ W = w') := fun W c' hb => by
    have h := total_any (Lt w.heap.size) X c' (L.drop k) W (by rw [hlD]; exact rdD.below hb fun _ h => h) hID (by omega)
    rwa [hlD] at h
  have hT4 : Hid (∀ W A' c' F, Rd W F 1 A' L.length (is_ (L.drop k ++ L.take k)) → Calls Tryd.prog 22 #[.slice A' L.length c'] W fun e w' => e = .returned (two64 (total L)) ∧ W = w') := fun W A' c' F hr => by
    have hl : (L.drop k ++ L.take k).length = L.length := by rw [List.length_append, hlT, hlD]; omega
    have h := total_any F A' c' (L.drop k ++ L.take k) W (by rw [hl]; exact hr) (fun x hx => by rcases List.mem_append.1 hx with h | h; exact hID x h; exact hIT x h) (by omega)
    rw [hl, hsum2] at h
    exact h
  have HADD : Hid (∀ W, In64 (total (L.take k)) → In64 (total (L.drop k)) → Calls Tryd.prog 12 #[.int .i64 (total (L.take k)), .int .i64 (total (L.drop k))] W fun e w' => e = .returned (two64 (total L)) ∧ W = w') := fun W h1 h2 => by
    have h := add_any _ _ W h1 h2
    rwa [← hsum] at h
  have HV1 : Hid (In64 (total (L.take k)) → sumV (total (L.take k)) = total (L.take k)) := fun h => sumV_in h
  have HV2 : Hid (In64 (total (L.drop k)) → sumV (total (L.drop k)) = total (L.drop k)) := fun h => sumV_in h
  have HC1 := Lib.hid (sumN_cases (total (L.take k)))
  have HC2 := Lib.hid (sumN_cases (total (L.drop k)))
  have hbx : (2 : Int) ≠ 0 := by decide
  have hsrcD : Hid (∀ W c', Below w.heap.size w W → Src Tryd.prog W 1 30 (.slice X (L.length - k) c') (L.length - k) (is_ (L.drop k))) := fun W c' hb => Src.of_rd (rdD.below hb fun _ h => h) (is_one _) Tryd.underlying30
  have hsrcT : Hid (∀ W c', Below w.heap.size w W → Src Tryd.prog W 1 30 (.slice A k c') k (is_ (L.take k))) := fun W c' hb => Src.of_rd (rdT.below hb fun _ h => h) (is_one _) Tryd.underlying30
  have HTD : Hid (is_ (L.drop k) ++ is_ (L.take k) = is_ (L.drop k ++ L.take k)) := (is_append _ _).symm
  clear rd hI hsum hsum2 hIT hID hlT hlD hIL rdT rdD rdL hk hm
  unfold two64 at hT1 hT2 hT3 hT4 HADD
  generalize sumV (total L) = v0 at *
  generalize ((sumN (total L) : Nat) : Int) = e0 at *
  generalize sumV (total (L.take k)) = v1 at *
  generalize ((sumN (total (L.take k)) : Nat) : Int) = e1 at *
  generalize sumV (total (L.drop k)) = v2 at *
  generalize ((sumN (total (L.drop k)) : Nat) : Int) = e2 at *
  generalize total (L.take k) = s1 at *
  generalize total (L.drop k) = s2 at *
  generalize is_ (L.drop k) = xd at *
  generalize is_ (L.take k) = xt at *
  generalize L.length = N at *
  have hAp : Hid (N - k + k ≤ maxLen ∧ (N - k + k) * 8 ≤ 140737488355328 ∧ 0 + (N - k) ≤ maxLen ∧ (0 + (N - k)) * 8 ≤ 140737488355328) := by
    refine ⟨?_, ?_, ?_, ?_⟩ <;> (try simp only [maxLen]) <;> omega
  have hck' : N ≤ l.length := by omega
  have hkc : k ≤ c := by omega
  have HNK : Hid (N - k + k = N) := by show _ = _; omega
  clear hL
  by_cases hck : c = k
  all_goals
    first | rw [if_pos hck] at hX | rw [if_neg hck] at hX
    subst hX
    go_enter Tryd.func7, Tryd.ntmps7
    go_wp2_with fail
    refine (livesC _).mono ?_
    rintro e w1 ⟨rfl, hb1⟩
    go_upto_region 5 with (fail)
    rw [hk']
    go_wp2_with fail
    refine (hT1.out _ _ hb1).mono ?_
    rintro e w2 ⟨rfl, rfl⟩
    go_upto_region 6 with (fail)
    have hb1d : Below w.heap.size w w1.drew := below_drewN hb1 1
    have hs1 := hb1.size
    go_region_law (first
      | (refine step_app _ rfl (.const (.slice none 0 0)) (.tmp 39) 30 30 rfl elI (Own.nil _ _ _) rfl (hsrcD.out _ _ hb1d) rfl hAp.out.2.2.1 hAp.out.2.2.2 ?_; intro v5 w5 ho5 hf5 hn5; rw [Nat.zero_add, List.nil_append] at ho5
         have hb5 : Below w.heap.size w w5 := below_fr_no hb1d (fr_at_none hf5) hb1d.size
         have hn5' : Newer w1.drew.heap.size none v5.ownBlock := Newer.of hn5)
      | (refine step_app _ rfl (.tmp 40) (.tmp 43) 30 30 rfl elI ho5 rfl (hsrcT.out _ _ hb5) rfl hAp.out.1 hAp.out.2.1 ?_; intro v6 w6 ho6 hf6 hn6; rw [HTD.out, HNK.out] at ho6; obtain ⟨A6, c6, rfl, hl6, hm6⟩ := ho6.form
         have hb6 : Below w.heap.size w w6 := below_fr hb5 hf6 hb5.size (fun i hi => Nat.le_trans hb1d.size (newer_none hn5' i hi)))
      | (go_simp; go_wp2_with (go_at_call 22; refine (hT4.out _ A6 _ _ ho6.rd).mono ?_; rintro e w7 ⟨rfl, rfl⟩)))
    all_goals
      have hb6' := hb6
      rcases HC1.out with ⟨q1, rfl⟩ | ⟨q1, rfl⟩
      · have V1 := HV1.out q1
        subst V1
        rcases HC2.out with ⟨q2, rfl⟩ | ⟨q2, rfl⟩
        · have V2 := HV2.out q2
          subst V2
          have HA := Lib.hid (fun W => HADD.out W q1 q2)
          clear q1 q2
          go_wp2_with fail
          refine (hT2.out _ _ hb6').mono ?_
          rintro e w8 ⟨rfl, rfl⟩
          go_wp2_with fail
          refine (hT3.out _ _ hb6').mono ?_
          rintro e w8 ⟨rfl, rfl⟩
          go_wp2_with fail
          refine (HA.out _).mono ?_
          rintro e w8 ⟨rfl, rfl⟩
          go_wp2
          go_ret
          exact ⟨rfl, hb6'⟩
        · go_wp2_with fail
          refine (hT2.out _ _ hb6').mono ?_
          rintro e w8 ⟨rfl, rfl⟩
          go_wp2_with fail
          refine (hT3.out _ _ hb6').mono ?_
          rintro e w8 ⟨rfl, rfl⟩
          go_wp2
          go_ret
          exact ⟨rfl, hb6'⟩
      · go_wp2_with fail
        refine (hT2.out _ _ hb6').mono ?_
        rintro e w8 ⟨rfl, rfl⟩
        go_wp2_with fail
        refine (hT3.out _ _ hb6').mono ?_
        rintro e w8 ⟨rfl, rfl⟩
        go_wp2
        go_ret
        exact ⟨rfl, hb6'⟩
end Go.Proofs.YtneelnfcjmbboaaDoor
