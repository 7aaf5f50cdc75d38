/- Contracts of package coins: parts, the same lists, what the laws call first. -/
import Derived.Test.YtneelnfcjmbboaaDoorCoins2
namespace Go.Proofs.YtneelnfcjmbboaaDoor
open Go.RowKit Go.My
set_option linter.unusedSimpArgs false
set_option linter.unusedVariables false

def SameRel (l r : List Int) (w : World) (i : Value) (wr : World) : Prop :=
  ∃ k j : Nat, k ≤ l.length ∧ i = .int .i64 k ∧ l.take k = r.take k ∧ wr = w.drewN j

set_option maxHeartbeats 400000 in
theorem sameI_any (F G : Nat → Prop) (A B : Option Addr) (c d : Nat) (l r : List Int) (w : World) (hl : Rd w F 1 A l.length (is_ l)) (hr : Rd w G 1 B r.length (is_ r)) (hsz : l.length ≤ 1000000000) :
    Calls Tryd.prog 26 #[.slice A l.length c, .slice B r.length d] w fun e w' => e = .returned (.bool (decide (l = r))) ∧ ∃ n, w' = w.drewN n := by
  by_cases hlen : l.length = r.length
  · have hz : ((l.length : Int) != (r.length : Int)) = false := by rw [bne_eq_false_iff_eq]; omega
    have HL := Lib.hid hlen
    have HA := Lib.hid hl
    have HB := Lib.hid hr
    clear hlen hl hr
    go_enter Tryd.func26, Tryd.ntmps26
    go_wp2
    go_loopw [5] (fun a wr => SameRel l r w a wr) (fun a _ => l.length - (intOf a).toNat)
    case atStart => exact ⟨0, 0, Nat.zero_le _, rfl, rfl, rfl⟩
    case round =>
      obtain ⟨k, j, hk, rfl, heq, rfl⟩ := hrel
      have HE := Lib.hid heq
      clear heq
      by_cases hlt : k < l.length
      · have hlt2 : k < r.length := by have := HL.out; omega
        obtain ⟨ad, u, rfl, _, hx, hc⟩ := HA.out.at_ hlt
        obtain ⟨bd, u2, rfl, _, hx2, hc2⟩ := HB.out.at_ hlt2
        rw [is_get l k hlt] at hx
        rw [is_get r k hlt2] at hx2
        injection hx with hx
        injection hx2 with hx2
        subst hx
        subst hx2
        have e1 : l.take (k + 1) = l.take k ++ [l[k]] := List.take_succ_eq_append_getElem hlt
        have e2 : r.take (k + 1) = r.take k ++ [r[k]] := List.take_succ_eq_append_getElem hlt2
        have hc' : (w.drewN j).cell? (ad.add k) = some (.int .i64 l[k]) := hc
        have hc2' : (w.drewN j).cell? (bd.add k) = some (.int .i64 r[k]) := hc2
        by_cases hxy : l[k] = r[k]
        · have hb : (l[k] != r[k]) = false := by rw [bne_eq_false_iff_eq]; exact hxy
          have E : Hid (l.take (k + 1) = r.take (k + 1)) := by show _ = _; rw [e1, e2, HE.out, hxy]
          clear e1 e2 hxy
          generalize l[k] = x at *
          generalize r[k] = y at *
          go_wp2
          go_quiet (fail)
          go_wp2
          go_roundw
          case rel => exact ⟨k + 1, _, by omega, by go_num, E.out, rfl⟩
          case measure => simp [intOf]; omega
        · have hb : (l[k] != r[k]) = true := by rw [bne_iff_ne]; exact hxy
          have E : Hid (l ≠ r) := by
            intro h
            subst h
            exact hxy rfl
          clear e1 e2 hxy
          generalize l[k] = x at *
          generalize r[k] = y at *
          go_wp2
          go_quiet (fail)
          go_wp2
          go_ret
          exact ⟨by rw [decide_eq_false E.out]; rfl, _, World.drewN_drewN _ _ _⟩
      · have : k = l.length := by omega
        subst this
        go_wp2
        go_ret
        have h1 := HE.out
        rw [List.take_length, HL.out, List.take_length] at h1
        exact ⟨by rw [decide_eq_true h1]; rfl, _, rfl⟩
  · have hz : ((l.length : Int) != (r.length : Int)) = true := by rw [bne_iff_ne]; omega
    have HL := Lib.hid hlen
    clear hlen hl hr
    go_enter Tryd.func26, Tryd.ntmps26
    go_wp2
    go_ret
    exact ⟨by rw [decide_eq_false (fun h => HL.out (by rw [h]))]; rfl, 0, rfl⟩


theorem fl_pos (a p : Int) (hp : 0 < p) (hr : 0 ≤ a.tmod p) : a / p = a.tdiv p ∧ a % p = a.tmod p := by
  have h1 := Int.mul_tdiv_add_tmod a p
  have h2 := Int.tmod_lt_of_pos a hp
  exact (Int.ediv_emod_unique hp).2 ⟨by omega, hr, h2⟩
theorem fl_neg (a p : Int) (hp : 0 < p) (hr : a.tmod p < 0) : a / p = a.tdiv p - 1 ∧ a % p = a.tmod p + p := by
  have h1 := Int.mul_tdiv_add_tmod a p
  have h2 : -p < a.tmod p := Int.lt_tmod_of_pos a hp
  refine (Int.ediv_emod_unique hp).2 ⟨?_, by omega, by omega⟩
  rw [Int.mul_sub, Int.mul_one]
  omega
theorem div_bd (a p : Int) (hp : 1 ≤ p) : (0 ≤ a → 0 ≤ a / p ∧ a / p ≤ a) ∧ (a < 0 → a ≤ a / p ∧ a / p < 0) := by
  refine ⟨fun h => ⟨Int.ediv_nonneg h (by omega), Int.ediv_le_self p h⟩, fun h => ⟨?_, Int.ediv_neg_of_neg_of_pos h (by omega)⟩⟩
  refine Int.le_ediv_of_mul_le (by omega) ?_
  have h1 := Int.mul_le_mul_of_nonneg_left hp (show 0 ≤ -a by omega)
  have h2 : -a * p = -(a * p) := Int.neg_mul a p
  omega
theorem div_lt (a p : Int) (hp : 1 ≤ p) (h0 : 0 ≤ a) (hx : 0 < a % p) : a / p + 1 ≤ a := by
  have h1 := Int.mul_ediv_add_emod a p
  have h2 := (div_bd a p hp).1 h0
  have := Int.mul_le_mul_of_nonneg_right hp h2.1
  omega
theorem tdiv_neg (a p : Int) (hp : 0 < p) (hr : a.tmod p < 0) : a < 0 := by
  rcases Int.lt_or_le a 0 with h | h
  · exact h
  · have := Int.tmod_nonneg p h
    omega
theorem elI : El Tryd.prog 30 2 1 8 := ⟨Tryd.underlying30, by
  have h : (Tryd.prog.info? 2).map (fun i => (i.zero, i.size, i.bytes)) = some (some (.int .i64 0), 1, 8) := by kernel_rfl
  obtain ⟨i, hi, hz, hs, hb⟩ := info_parts h
  exact ⟨i, _, hi, hz, hs, hb, rfl⟩, by omega⟩
theorem zeroI : ∀ i, Tryd.prog.info? 2 = some i → i.zero = some (.int .i64 0) := by
  have h : (Tryd.prog.info? 2).map (fun i => (i.zero, i.size, i.bytes)) = some (some (.int .i64 0), 1, 8) := by kernel_rfl
  intro i hi
  rw [hi] at h
  simp at h
  exact h.1
theorem shareF_get (a : Int) (p i : Nat) (h : i < p) : (shareF a p)[i]? = some (a / (p : Int) + if (i : Int) < a % (p : Int) then 1 else 0) := by
  simp [shareF, h]
/-- the first k parts, noughts behind -/
def shareK (a : Int) (p k : Nat) : List Int := (shareF a p).take k ++ List.replicate (p - k) 0
theorem shareK_length (a : Int) (p k : Nat) (h : k ≤ p) : (shareK a p k).length = p := by simp [shareK, shareF_length]; omega
theorem shareK_set (a : Int) (p k : Nat) (h : k < p) (x : Int) (hx : x = a / (p : Int) + if (k : Int) < a % (p : Int) then 1 else 0) : (shareK a p k).set k x = shareK a p (k + 1) := by
  apply List.ext_getElem?
  intro i
  have hl := shareF_length a p
  unfold shareK
  rw [List.getElem?_set]
  by_cases hik : k = i
  · subst hik
    rw [if_pos rfl, if_pos (by simp [hl]; omega), List.getElem?_append_left (by simp [hl]; omega), List.getElem?_take, if_pos (by omega), shareF_get a p k h, hx]
  · rw [if_neg hik]
    by_cases hlt : i < k
    · rw [List.getElem?_append_left (by simp [hl]; omega), List.getElem?_append_left (by simp [hl]; omega), List.getElem?_take, List.getElem?_take, if_pos hlt, if_pos (by omega)]
    · rw [List.getElem?_append_right (by simp [hl]; omega), List.getElem?_append_right (by simp [hl]; omega)]
      simp only [List.length_take, hl, List.getElem?_replicate]
      by_cases hip : i < p
      · rw [if_pos (by omega), if_pos (by omega)]
      · rw [if_neg (by omega), if_neg (by omega)]

def ShareRel (w : World) (a : Int) (p B : Nat) (iv : Value) (wr : World) : Prop :=
  ∃ k : Nat, k ≤ p ∧ iv = .int .i64 k ∧ Blk wr B 2 (is_ (shareK a p k)).toArray ∧ Below w.heap.size w wr

set_option maxHeartbeats 1000000 in
theorem share_any (a : Int) (p : Nat) (w : World) (ha : In64 a) (hp1 : 1 ≤ p) (hp2 : p ≤ 100) :
    Calls Tryd.prog 24 #[.int .i64 a, .int .i64 (p : Int)] w fun e w' => ∃ A, e = .returned (.tuple #[.slice A p p, .int .i64 0]) ∧ Rd w' (Lt w'.heap.size) 1 A p (is_ (shareF a p)) ∧ Below w.heap.size w w' := by
  have HA := Lib.hid ha
  clear ha
  have h1 : ¬ (p : Int) < 1 := by omega
  have h2 : ¬ (100 : Int) < p := by omega
  go_enter Tryd.func24, Tryd.ntmps24
  have hpn : ¬ (p : Int) = 0 := by omega
  go_upto_region 3 with (fail)
  go_quiet (fail)
  have hp0 : (0 : Int) < p := by omega
  have hbd := div_bd a p (by omega)
  have hdl := div_lt a p (by omega)
  have hge : 0 ≤ a % (p : Int) := Int.emod_nonneg _ (by omega)
  have hltp : a % (p : Int) < p := Int.emod_lt_of_pos _ hp0
  have hIn := HA.out
  have HBD : Hid (In64 (a / p) ∧ (0 < a % (p : Int) → a / p + 1 ≤ 9223372036854775807)) := by
    show In64 _ ∧ _
    unfold In64 at hIn ⊢
    rcases Int.lt_or_le a 0 with h | h
    · have := hbd.2 h; omega
    · have h1 := hbd.1 h
      refine ⟨by omega, fun hx => ?_⟩
      have := hdl h hx
      omega
  have HSL : Hid (∀ k, k < p → (shareK a p k)[k]? = some 0) := fun k hk => by
    have hlk : ((shareF a p).take k).length = k := by rw [List.length_take, shareF_length]; omega
    unfold shareK
    rw [List.getElem?_append_right (by omega), hlk, Nat.sub_self, List.getElem?_replicate, if_pos (by omega)]
  have HB0 : Below w.heap.size w (w.drewN nq) := below_drewN (Below.refl _ _) _
  by_cases hneg : a.tmod p < 0
  · have E : wrap64 (wrap64 (a.tdiv p) - 1) = a / p ∧ wrap64 (a.tmod p + p) = a % p := by
      obtain ⟨f1, f2⟩ := fl_neg a p hp0 hneg
      have ha0 := tdiv_neg a p hp0 hneg
      have hb2 := hbd.2 ha0
      unfold In64 at hIn
      have g1 := wrap64_eq (a.tdiv p)
      have g2 := wrap64_eq (a.tdiv p - 1)
      have g3 := wrap64_eq (a.tmod p + p)
      refine ⟨?_, by omega⟩
      rw [show wrap64 (a.tdiv p) = a.tdiv p by omega]
      omega
    obtain ⟨E1, E2⟩ := E
    go_upto_region 7 with (fail)
    try rw [E1]
    try rw [E2]
    clear E1 E2 hneg hbd hdl hIn
    have hmk := fun W => run_make1 (P := Tryd.prog) elI zeroI rfl .i64 .i64 p (by omega) (by simp only [maxLen]; omega) W
    have hz : (zrow p (.int .i64 0)).toArray = (is_ (shareK a p 0)).toArray := by
      congr 1
      simp [zrow, shareK, is_]
    rw [hz] at hmk
    have hstart : ShareRel w a p (w.drewN nq).heap.size (.int .i64 0) ((w.drewN nq).alloc (.cells (is_ (shareK a p 0)).toArray 2)) := ⟨0, Nat.zero_le _, rfl, Blk.new _ _ _, by exact Below.alloc HB0 (by have := HB0.size; exact this) _⟩
    have hbd := HBD.out
    clear HB0 HA
    go_wp2
    have hB : w.heap.size ≤ (w.drewN nq).heap.size := Nat.le_refl _
    have hsz : (w.drewN nq).heap.size = w.heap.size := rfl
    go_loopw [33] (fun i wr => ShareRel w a p w.heap.size i wr) (fun i _ => p - (intOf i).toNat)
    case atStart => exact hstart
    case round =>
      clear hstart
      obtain ⟨k, hk, rfl, hb, hbel⟩ := hrel
      by_cases hlt : k < p
      · have hc0 := hb.cell k
        have hs0 := HSL.out k hlt
        have hcell : wr.cell? ⟨w.heap.size, k, none⟩ = some (.int .i64 0) := by
          rw [hc0]
          simp only [List.getElem?_toArray, is_, List.getElem?_map, hs0, Option.map_some]
        have hfz := hb.frozen k
        have hset : ∀ x : Int, Blk (wr.setCell ⟨w.heap.size, k, none⟩ (.int .i64 x)) w.heap.size 2 (is_ ((shareK a p k).set k x)).toArray := by
          intro x
          have := hb.set_ k (.int .i64 x)
          have e : (is_ (shareK a p k)).toArray.setIfInBounds k (.int .i64 x) = (is_ ((shareK a p k).set k x)).toArray := by
            simp [is_, List.map_set]
          rwa [e] at this
        have HSET := Lib.hid hset
        clear hc0 hs0 hset
        by_cases hx : (k : Int) < a % (p : Int)
        · have hof : a / (p : Int) + 1 ≤ 9223372036854775807 := hbd.2 (by omega)
          have hof2 := hbd.1
          unfold In64 at hof2
          obtain ⟨hof3, hof4⟩ := hof2
          have hw := wrap64_eq (a / (p : Int) + 1)
          have hw1 : wrap64 (a / (p : Int) + 1) = a / (p : Int) + 1 := by omega
          have HKS := Lib.hid (shareK_set a p k hlt (a / (p : Int) + 1) (by rw [if_pos hx]))
          have HEND : Hid (ShareRel w a p w.heap.size (.int .i64 ((k : Int) + 1)) ((wr.setCell ⟨w.heap.size, k, none⟩ (.int .i64 (a / (p : Int)))).setCell ⟨w.heap.size, k, none⟩ (.int .i64 (a / (p : Int) + 1)))) := by
            refine ⟨k + 1, by omega, by go_num, ?_, (hbel.setCell (Nat.le_refl _) _).setCell (Nat.le_refl _) _⟩
            have h1 := (HSET.out (a / (p : Int))).set_ k (.int .i64 (a / (p : Int) + 1))
            have e : (is_ ((shareK a p k).set k (a / (p : Int)))).toArray.setIfInBounds k (.int .i64 (a / (p : Int) + 1)) = (is_ (shareK a p (k + 1))).toArray := by
              rw [← HKS.out]
              simp [is_, List.map_set]
            rwa [e] at h1
          clear hw hb
          go_wp2
          exact ⟨HEND.out, by simp [intOf]; omega⟩
        · have HKS := Lib.hid (shareK_set a p k hlt (a / (p : Int)) (by rw [if_neg hx]; omega))
          have HEND : Hid (ShareRel w a p w.heap.size (.int .i64 ((k : Int) + 1)) (wr.setCell ⟨w.heap.size, k, none⟩ (.int .i64 (a / (p : Int))))) :=
            ⟨k + 1, by omega, by go_num, by have := HSET.out (a / (p : Int)); rwa [HKS.out] at this, hbel.setCell (Nat.le_refl _) _⟩
          clear hb
          go_wp2
          go_roundw
          case rel => exact HEND.out
          case measure => simp [intOf]; omega
      · obtain rfl : k = p := by omega
        have hfull : shareK a k k = shareF a k := by
          unfold shareK
          rw [Nat.sub_self, List.take_of_length_le (by rw [shareF_length]; omega)]
          simp
        rw [hfull] at hb
        have HBK := Lib.hid hb
        clear hb hfull
        go_wp2
        go_ret2
        have hl := HBK.out.lt
        exact ⟨some ⟨w.heap.size, 0, none⟩, rfl, ⟨by rw [is_length, shareF_length]; omega, fun _ => ⟨_, rfl, hl, World.news_of_block HBK.out⟩⟩, hbel⟩

  · have E : wrap64 (a.tdiv p) = a / p ∧ a.tmod p = a % p := by
      obtain ⟨f1, f2⟩ := fl_pos a p hp0 (by omega)
      unfold In64 at hIn
      have g1 := wrap64_eq (a.tdiv p)
      refine ⟨?_, f2.symm⟩
      rcases Int.lt_or_le a 0 with h | h
      · have := hbd.2 h; omega
      · have := hbd.1 h; omega
    obtain ⟨E1, E2⟩ := E
    rw [E2] at hneg
    go_upto_region 7 with (fail)
    try rw [E1]
    try rw [E2]
    clear E1 E2 hneg hbd hdl hIn
    have hmk := fun W => run_make1 (P := Tryd.prog) elI zeroI rfl .i64 .i64 p (by omega) (by simp only [maxLen]; omega) W
    have hz : (zrow p (.int .i64 0)).toArray = (is_ (shareK a p 0)).toArray := by
      congr 1
      simp [zrow, shareK, is_]
    rw [hz] at hmk
    have hstart : ShareRel w a p (w.drewN nq).heap.size (.int .i64 0) ((w.drewN nq).alloc (.cells (is_ (shareK a p 0)).toArray 2)) := ⟨0, Nat.zero_le _, rfl, Blk.new _ _ _, by exact Below.alloc HB0 (by have := HB0.size; exact this) _⟩
    have hbd := HBD.out
    clear HB0 HA
    go_wp2
    have hB : w.heap.size ≤ (w.drewN nq).heap.size := Nat.le_refl _
    have hsz : (w.drewN nq).heap.size = w.heap.size := rfl
    go_loopw [33] (fun i wr => ShareRel w a p w.heap.size i wr) (fun i _ => p - (intOf i).toNat)
    case atStart => exact hstart
    case round =>
      clear hstart
      obtain ⟨k, hk, rfl, hb, hbel⟩ := hrel
      by_cases hlt : k < p
      · have hc0 := hb.cell k
        have hs0 := HSL.out k hlt
        have hcell : wr.cell? ⟨w.heap.size, k, none⟩ = some (.int .i64 0) := by
          rw [hc0]
          simp only [List.getElem?_toArray, is_, List.getElem?_map, hs0, Option.map_some]
        have hfz := hb.frozen k
        have hset : ∀ x : Int, Blk (wr.setCell ⟨w.heap.size, k, none⟩ (.int .i64 x)) w.heap.size 2 (is_ ((shareK a p k).set k x)).toArray := by
          intro x
          have := hb.set_ k (.int .i64 x)
          have e : (is_ (shareK a p k)).toArray.setIfInBounds k (.int .i64 x) = (is_ ((shareK a p k).set k x)).toArray := by
            simp [is_, List.map_set]
          rwa [e] at this
        have HSET := Lib.hid hset
        clear hc0 hs0 hset
        by_cases hx : (k : Int) < a % (p : Int)
        · have hof : a / (p : Int) + 1 ≤ 9223372036854775807 := hbd.2 (by omega)
          have hof2 := hbd.1
          unfold In64 at hof2
          obtain ⟨hof3, hof4⟩ := hof2
          have hw := wrap64_eq (a / (p : Int) + 1)
          have hw1 : wrap64 (a / (p : Int) + 1) = a / (p : Int) + 1 := by omega
          have HKS := Lib.hid (shareK_set a p k hlt (a / (p : Int) + 1) (by rw [if_pos hx]))
          have HEND : Hid (ShareRel w a p w.heap.size (.int .i64 ((k : Int) + 1)) ((wr.setCell ⟨w.heap.size, k, none⟩ (.int .i64 (a / (p : Int)))).setCell ⟨w.heap.size, k, none⟩ (.int .i64 (a / (p : Int) + 1)))) := by
            refine ⟨k + 1, by omega, by go_num, ?_, (hbel.setCell (Nat.le_refl _) _).setCell (Nat.le_refl _) _⟩
            have h1 := (HSET.out (a / (p : Int))).set_ k (.int .i64 (a / (p : Int) + 1))
            have e : (is_ ((shareK a p k).set k (a / (p : Int)))).toArray.setIfInBounds k (.int .i64 (a / (p : Int) + 1)) = (is_ (shareK a p (k + 1))).toArray := by
              rw [← HKS.out]
              simp [is_, List.map_set]
            rwa [e] at h1
          clear hw hb
          go_wp2
          exact ⟨HEND.out, by simp [intOf]; omega⟩
        · have HKS := Lib.hid (shareK_set a p k hlt (a / (p : Int)) (by rw [if_neg hx]; omega))
          have HEND : Hid (ShareRel w a p w.heap.size (.int .i64 ((k : Int) + 1)) (wr.setCell ⟨w.heap.size, k, none⟩ (.int .i64 (a / (p : Int))))) :=
            ⟨k + 1, by omega, by go_num, by have := HSET.out (a / (p : Int)); rwa [HKS.out] at this, hbel.setCell (Nat.le_refl _) _⟩
          clear hb
          go_wp2
          go_roundw
          case rel => exact HEND.out
          case measure => simp [intOf]; omega
      · obtain rfl : k = p := by omega
        have hfull : shareK a k k = shareF a k := by
          unfold shareK
          rw [Nat.sub_self, List.take_of_length_le (by rw [shareF_length]; omega)]
          simp
        rw [hfull] at hb
        have HBK := Lib.hid hb
        clear hb hfull
        go_wp2
        go_ret2
        have hl := HBK.out.lt
        exact ⟨some ⟨w.heap.size, 0, none⟩, rfl, ⟨by rw [is_length, shareF_length]; omega, fun _ => ⟨_, rfl, hl, World.news_of_block HBK.out⟩⟩, hbel⟩

set_option maxHeartbeats 1000000 in
theorem livesC (w : World) : Calls Tryd.prog 11 #[] w (RetTrue w) := by
  have h7 := fun W => share_any 7 3 W (by unfold In64; omega) (by omega) (by omega)
  have hsh : shareF 7 3 = [3, 2, 2] := by decide
  rw [hsh] at h7
  have hd5 : Lib.decDigits 5 = [53] := by decide +kernel
  have ht5 : ∀ W, Calls Tryd.prog 20 #[.int .i64 (-5), .int .i64 2] W fun e w' => e = .returned (.string ⟨#[45, 48, 46, 48, 53]⟩) ∧ Below W.heap.size W w' := by
    intro W
    have hF : ∀ W1, Below W.heap.size W W1 → Calls Tryd.prog 38 #[.int .u64 (((-5 : Int).natAbs : Nat) : Int), .int .i64 10] W1 fun e W' => e = .returned (.string ⟨([53] : List UInt8).toArray⟩) ∧ Below W.heap.size W W' := by
      intro W1 hW1
      rw [show (-5 : Int).natAbs = 5 from rfl]
      refine (fmtu_small 5 W1 (by omega)).mono ?_
      rintro e W' ⟨he, hw⟩
      subst hw
      rw [hd5] at he
      exact ⟨he, hW1⟩
    have h := text_of (-5) 2 [53] W (by unfold In64; omega) (by simp) hF
    have e : textD (decide ((-5 : Int) < 0)) (withF 2) [53] = [45, 48, 46, 48, 53] := by decide
    rw [e] at h
    exact h
  have hr5 : ∀ W, Calls Tryd.prog 18 #[.string ⟨#[45, 48, 46, 48, 53]⟩, .int .i64 2] W fun e w' => e = .returned (.tuple #[.int .i64 (-5), .int .i64 0]) ∧ Below W.heap.size W w' := by
    intro W
    have h := read_ok [45, 48, 46, 48, 53] 2 (-5) [45, 48, 46, 48, 53] W (by simp) (by decide +kernel) (fun W1 hW1 => (ht5 W1).mono fun e W' ⟨he, hw⟩ => ⟨he, below_fresh hW1 hw hW1.size⟩)
    exact h
  have HSH := Lib.hid h7
  have HTX := Lib.hid ht5
  have HRD := Lib.hid hr5
  clear h7 hsh hd5 ht5 hr5
  go_enter Tryd.func11, Tryd.ntmps11
  go_wp2_with fail
  refine (HSH.out w).mono ?_
  rintro e w1 ⟨A1, rfl, hr1, hb1⟩
  go_wp2_with fail
  refine (HRD.out w1).mono ?_
  rintro e w2 ⟨rfl, hb2⟩
  have hb2' := below_fresh hb1 hb2 hb1.size
  have hr2 : Rd w2 (Lt w1.heap.size) 1 A1 3 (is_ [3, 2, 2]) := hr1.below hb2 fun _ h => h
  have hl2 := hb2.size
  go_wp2_with fail
  have hr2' : Rd (w2.alloc (.cells #[.int .i64 1, .int .i64 2] 2)) (Lt w1.heap.size) 1 A1 3 (is_ [3, 2, 2]) := hr2.below (B := w1.heap.size) ((Below.refl _ _).alloc hl2 _) fun _ h => h
  have hl3 : w1.heap.size ≤ (w2.alloc (.cells #[.int .i64 1, .int .i64 2] 2)).heap.size := by simp; omega
  have hb3 : Below w.heap.size w (w2.alloc (.cells #[.int .i64 1, .int .i64 2] 2)) := hb2'.alloc hb2'.size _
  have htt := total_any (fun _ => True) (some ⟨w2.heap.size, 0, none⟩) 2 [1, 2] (w2.alloc (.cells #[.int .i64 1, .int .i64 2] 2)) ⟨rfl, fun _ => ⟨_, rfl, trivial, World.news_of_block (heap_alloc_new w2 _)⟩⟩ (fun x hx => by simp at hx; unfold In64; omega) (by simp)
  have h3 : total [1, 2] = 3 := by decide
  rw [h3, two64_in (by unfold In64; omega)] at htt
  refine Calls.mono (htt : Calls Tryd.prog 22 #[.slice (some ⟨w2.heap.size, 0, none⟩) 2 2] _ _) ?_
  rintro e w3 ⟨rfl, rfl⟩
  clear htt h3
  have hb4 := hb3.alloc hb3.size (.cells #[.int .i64 3, .int .i64 2, .int .i64 2] 2)
  generalize w2.alloc (.cells #[.int .i64 1, .int .i64 2] 2) = w3 at *
  have hr4 : Rd (w3.alloc (.cells #[.int .i64 3, .int .i64 2, .int .i64 2] 2)) (Lt w1.heap.size) 1 A1 3 (is_ [3, 2, 2]) := hr2'.below (B := w1.heap.size) ((Below.refl _ _).alloc hl3 _) fun _ h => h
  have HSM : Hid (Calls Tryd.prog 26 #[.slice A1 3 3, .slice (some ⟨w3.heap.size, 0, none⟩) 3 3] (w3.alloc (.cells #[.int .i64 3, .int .i64 2, .int .i64 2] 2)) fun e w' => e = .returned (.bool true) ∧ ∃ n, w' = (w3.alloc (.cells #[.int .i64 3, .int .i64 2, .int .i64 2] 2)).drewN n) :=
    sameI_any (Lt w1.heap.size) (fun _ => True) A1 (some ⟨w3.heap.size, 0, none⟩) 3 3 [3, 2, 2] [3, 2, 2] _ hr4 ⟨rfl, fun _ => ⟨_, rfl, trivial, World.news_of_block (heap_alloc_new w3 _)⟩⟩ (by simp)
  go_wp2_with (first
    | (go_at_call 26; refine HSM.out.mono ?_; rintro e w4 ⟨rfl, nd, rfl⟩)
    | (go_at_call 20; refine (HTX.out _).mono ?_; rintro e w5 ⟨rfl, hb5⟩))
  go_ret
  exact ⟨rfl, below_fresh (below_drewN hb4 nd) hb5 (by exact hb4.size)⟩
end Go.Proofs.YtneelnfcjmbboaaDoor
