/- KnotsOpen: has, and the walk. -/
import Derived.Test.YtcjofakhefpfdaaKnLR
namespace Go.Proofs.Ytcjofakhefpfdaa
open Go.RowKit Go.My Go.My.Kn Go.Maps
set_option linter.unusedSimpArgs false
set_option linter.unusedVariables false
attribute [local go_sem ↓] Go.wp_at_zero Go.wp_at_succ

set_option maxHeartbeats 2000000 in
theorem has_any (w : World) (F : Nat → Prop) (A : Option Addr) (c : Nat) (L : List Int) (x : Int) (hl : Rd w F 1 A L.length (is_ L)) (hlen : L.length ≤ 1000000) :
    Calls Try.prog 19 #[.slice A L.length c, .int .i64 x] w fun e w' => e = .returned (.bool (decide (x ∈ L))) ∧ w' = w := by
  obtain ⟨b, hb⟩ : ∃ b, b = decide (x ∈ L) := ⟨_, rfl⟩
  rw [← hb]
  have HB := Lib.hid hb
  have HL := Lib.hid hl
  clear hb hl
  go_enter Try.func19, Try.ntmps19
  go_wp2
  go_loopw [5] (fun iv wr => ∃ i : Nat, iv = .int .i64 (i : Int) ∧ i ≤ L.length ∧ (∀ k, k < i → L[k]? ≠ some x) ∧ w = wr) (fun iv _ => L.length - (intOf iv).toNat)
  case atStart => exact ⟨0, rfl, Nat.zero_le _, fun k hk => absurd hk (Nat.not_lt_zero _), rfl⟩
  case round =>
    obtain ⟨i, rfl, hi, hs, rfl⟩ := hrel
    have HS := Lib.hid hs
    clear hs
    by_cases hil : i < L.length
    · obtain ⟨ad, u, rfl, _, hu, hc⟩ := HL.out.at_ hil
      rw [is_at _ i hil] at hu
      injection hu with hu
      subst hu
      have hilI : (i : Int) < (L.length : Int) := by omega
      obtain ⟨i1, hi1⟩ : ∃ i1, i1 = i + 1 := ⟨_, rfl⟩
      have hwi : wrap64 ((i : Int) + 1) = (i1 : Int) := by unfold wrap64; omega
      have HI1 := Lib.hid hi1
      have HX : Hid (L[i]? = some L[i]) := Lib.hid (List.getElem?_eq_getElem hil)
      generalize L[i] = y at *
      clear hi1
      by_cases hxy : y = x
      · have hxI : (y == x) = true := by rw [hxy]; simp
        have HXY := Lib.hid hxy
        clear hxy
        go_wp2
        go_ret
        have e : b = true := by
          rw [HB.out]
          refine decide_eq_true ?_
          have h1 := HX.out
          rw [HXY.out] at h1
          exact List.mem_of_getElem? h1
        rw [e]
        exact ⟨rfl, rfl⟩
      · have hxI : (y == x) = false := by simpa using hxy
        have HXY := Lib.hid hxy
        clear hxy
        go_wp2
        go_roundw
        case measure =>
          first
            | (show L.length - (intOf (Value.int .i64 (wrap64 ((i : Int) + 1)))).toNat < L.length - (intOf (Value.int .i64 (i : Int))).toNat; rw [hwi]; exact num_lt hil HI1.out)
            | (show L.length - (intOf (Value.int .i64 ((i : Int) + 1))).toNat < L.length - (intOf (Value.int .i64 (i : Int))).toNat; exact num_lt hil rfl)
        case rel =>
          refine ⟨i1, by first | rw [hwi] | (rw [HI1.out]; rfl), by rw [HI1.out]; exact hil, fun k hk => ?_, by first | rfl | trivial⟩
          rcases Nat.lt_succ_iff_lt_or_eq.1 (HI1.out ▸ hk) with h | rfl
          · exact HS.out k h
          · rw [HX.out]; intro e; injection e with e; exact HXY.out e
    · have hilI : ¬ (i : Int) < (L.length : Int) := by omega
      have hie : i = L.length := by omega
      go_wp2
      go_ret
      have e : b = false := by
        rw [HB.out]
        refine decide_eq_false fun h => ?_
        obtain ⟨k, hk, e⟩ := List.mem_iff_getElem.1 h
        exact HS.out k (by omega) (by rw [List.getElem?_eq_getElem hk, e])
      rw [e]
      exact ⟨rfl, rfl⟩

/-! ### what is open -/
section
variable {G : List (List Int)} {kl ml : List Bool} {k : Nat}
/-- where all are known all are open -/
theorem open_all {al : List Bool} (h : ∀ a, a < G.length → unk al a = false) (x : Int) : openX G al x ↔ 0 ≤ x ∧ x < G.length := by
  rw [openX_iff]
  constructor
  · rintro ⟨a, ha, rfl, -⟩; omega
  · rintro ⟨h0, h1⟩
    refine ⟨x.toNat, by omega, by omega, h _ (by omega), fun b hb => h b ?_⟩
    exact ((reachR G).lt _ b ((vtr G _ b).2 hb)).2
theorem open_nil (x : Int) : ¬ openX G [] x := by
  rw [openX_iff]
  rintro ⟨a, _, _, h, _⟩
  rw [unk_out (by simp)] at h
  cases h
/-- one more that is known -/
def moreOf (kl ml : List Bool) (n k : Nat) : Prop := ∀ a, a < n → (unk ml a = false ↔ unk kl a = false ∨ a = k)
theorem open_more (h : moreOf kl ml G.length k) {x : Int} (hx : openX G kl x) : openX G ml x := by
  rw [openX_iff] at hx ⊢
  obtain ⟨a, ha, rfl, h1, h2⟩ := hx
  exact ⟨a, ha, rfl, (h a ha).2 (.inl h1), fun b hb => (h b ((reachR G).lt _ b ((vtr G _ b).2 hb)).2).2 (.inl (h2 b hb))⟩
/-- what is open reaches but what is open -/
theorem open_reach {x y : Int} (hx : openX G ml x) (hy : reachX G x y) : openX G ml y := by
  rw [openX_iff] at hx ⊢
  rw [reachX_iff] at hy
  obtain ⟨a, ha, rfl, h1, h2⟩ := hx
  obtain ⟨i, j, hi, rfl, ht⟩ := hy
  obtain rfl : a = i := by omega
  exact ⟨j, ((reachR G).lt _ j ((vtr G _ j).2 ht)).2, rfl, h2 j ht, fun b hb => h2 b (Tr.trans ht hb)⟩
/-- what is open now and wasn't is the one, or reaches it -/
theorem open_new (h : moreOf kl ml G.length k) {x : Int} (hx : openX G ml x) (hn : ¬ openX G kl x) (hk : x ≠ (k : Int)) : reachX G x (k : Int) := by
  rw [openX_iff] at hx hn
  rw [reachX_iff]
  obtain ⟨a, ha, rfl, h1, h2⟩ := hx
  refine Classical.byContradiction fun hno => hn ⟨a, ha, rfl, ?_, fun b hb => ?_⟩
  · rcases (h a ha).1 h1 with e | e
    · exact e
    · exact absurd (by rw [e]) hk
  · rcases (h b ((reachR G).lt _ b ((vtr G _ b).2 hb)).2).1 (h2 b hb) with e | e
    · exact e
    · subst e
      exact absurd ⟨a, b, rfl, rfl, hb⟩ hno
end
/-! ### the walk -/
theorem bl_map (p : Nat → Bool) (n : Nat) : bl p n = ((List.range n).map p).map Value.bool := by unfold bl; rw [List.map_map]; rfl
theorem unk_map (p : Nat → Bool) {n a : Nat} (h : a < n) : unk ((List.range n).map p) a = !p a := by
  rw [unk_in (by simpa using h)]; simp
def LpA (n ab : Nat) (w3 : World) (i : Nat) (wr : World) : Prop := Own wr 4 1 (.slice (some ⟨ab, 0, none⟩) n n) n (bl (fun k => decide (k < i)) n) ∧ Fr (At1 ab) w3 wr
def moreF (kl : List Bool) (k i : Nat) : Nat → Bool := fun a => decide (a < i) && (!unk kl a || a == k)
def LpM (n mb k : Nat) (kl : List Bool) (w3 : World) (i : Nat) (wr : World) : Prop := Own wr 4 1 (.slice (some ⟨mb, 0, none⟩) n n) n (bl (moreF kl k i) n) ∧ Fr (At1 mb) w3 wr
theorem moreF_set (kl : List Bool) (k i n : Nat) (v : Bool) (hv : v = (!unk kl i || i == k)) : bl (upN (moreF kl k i) i v) n = bl (moreF kl k (i + 1)) n := bl_congr fun a _ => by
  by_cases e : a = i
  · subst e
    rw [upN_at, hv]; unfold moreF; simp
  · rw [upN_ne _ _ e]
    unfold moreF
    have : decide (a < i + 1) = decide (a < i) := by rw [Bool.eq_iff_iff, decide_eq_true_iff, decide_eq_true_iff]; omega
    rw [this]
theorem more_all (kl : List Bool) (n k : Nat) : moreOf kl ((List.range n).map (moreF kl k n)) n k := fun a ha => by
  rw [unk_map _ ha]
  unfold moreF
  cases h : unk kl a <;> simp [ha]
theorem range_len {n : Nat} {L : List Int} (h : L.Pairwise (· < ·)) (hm : ∀ x, x ∈ L ↔ 0 ≤ x ∧ x < (n : Int)) : L.length = n := by
  have e : L = (List.range n).map fun (x : Nat) => (x : Int) := up_eqI h (by rw [List.pairwise_map]; exact List.pairwise_lt_range.imp fun h => by omega) fun x => by
    rw [hm, List.mem_map]
    constructor
    · intro h; exact ⟨x.toNat, List.mem_range.2 (by omega), by omega⟩
    · rintro ⟨a, ha, rfl⟩; rw [List.mem_range] at ha; omega
  rw [e]; simp

set_option maxRecDepth 100000 in
set_option maxHeartbeats 8000000 in
theorem knotsOpen_walk (A : Option Addr) (c : Nat) (g : List (List Int)) (K : Option Addr) (kc : Nat) (kl : List Bool) (x : Int) (W : World) (hg : RdG W (Lt W.heap.size) A g) (lc : g.length ≤ c) (cm : c ≤ maxLen) (hk : Rd W (Lt W.heap.size) 1 K kl.length (kl.map Value.bool)) (lk : kl.length ≤ kc) (ck : kc ≤ maxLen) (bx : -9223372036854775808 ≤ x ∧ x ≤ 9223372036854775807) :
    Calls Try.prog 8 #[.slice A g.length c, .slice K kl.length kc, .int .i64 x] W (RetTrue W) := by
  have hmax : maxLen ≤ 9223372036854775807 := by simp [maxLen]
  have HFW : Hid (∀ w1, Fr No W w1 → Calls Try.prog 10 #[.slice A g.length c, .int .i64 25] w1 (FewR w1 (Lt W.heap.size) g 25)) := Lib.hid (fun w1 h1 => few_any w1 (Lt W.heap.size) A c 25 g (hg.no h1) (by omega) (by omega))
  have HKL : Hid (∀ w1, Fr No W w1 → Rd w1 (Lt W.heap.size) 1 K kl.length (kl.map Value.bool)) := Lib.hid (fun w1 h1 => hk.no_ h1)
  have hkl : kl.length ≤ 9223372036854775807 := by omega
  have HKB := Lib.hid hkl
  have HLV := Lib.hid (lives13 W)
  clear hg lc cm hk lk ck hmax hkl
  go_enter Try.func8, Try.ntmps8
  go_upto_region 4 with (first
    | (go_at_call 9; (with_reducible refine HLV.out.mono ?_); rintro _ w1 ⟨rfl, hf1⟩; have HF1 := Lib.hid hf1; clear hf1)
    | (go_at_call 10; (with_reducible refine (HFW.out _ HF1.out).mono ?_); rintro _ w2 ⟨B, d, rfl, hg2, hf2⟩; have HG2 := Lib.hid hg2; have HF2 := Lib.hid (HF1.out.trans hf2); clear hg2 hf2))
  have hn25 : (fewG g 25).length ≤ 25 := by rw [fewG_len]; omega
  have hm20 : ∀ L ∈ fewG g 25, L.length ≤ 20 := fewG_row
  generalize fewG g 25 = G at *
  generalize hgn : G.length = n at *
  have HRE : Hid (∀ w3, Fr No w2 w3 → ∀ y : Int, Calls Try.prog 16 #[.slice B n d, .int .i64 y] w3 (RetX w3 (reachX G y))) := Lib.hid (fun w3 h3 y => by
    have h := reach_any w3 _ B d G y (HG2.out.no h3) (by omega) (fun L hL => Nat.le_trans (hm20 L hL) (by omega))
    rw [hgn] at h; exact h)
  have HOP : Hid (∀ w3, Fr No w2 w3 → ∀ (F2 : Nat → Prop) (K2 : Option Addr) (kc2 : Nat) (kl2 : List Bool), Rd w3 F2 1 K2 kl2.length (kl2.map Value.bool) → kl2.length ≤ 9223372036854775807 → Calls Try.prog 17 #[.slice B n d, .slice K2 kl2.length kc2] w3 (RetX w3 (openX G kl2))) := Lib.hid (fun w3 h3 F2 K2 kc2 kl2 hr hl => by
    have h := open_any2 w3 _ F2 B K2 d kc2 G kl2 (HG2.out.no h3) hr (by omega) (fun L hL => Nat.le_trans (hm20 L hL) (by omega)) hl
    rw [hgn] at h; exact h)
  have HGN := Lib.hid hgn
  clear hgn hm20
  have hmk2 := fun W => run_make1 (P := Try.prog) elBo zeroBo rfl .i64 .i64 n (by omega) (by simp only [maxLen]; omega) W
  -- all
  have hob : Own (w2.alloc (.cells (zrow n (.bool false)).toArray 4)) 4 1 (.slice (some ⟨w2.heap.size, 0, none⟩) n n) n (bl (fun k => decide (k < 0)) n) := by
    rw [bl_congr (r := fun _ => false) (fun k _ => by simp), bl_zero]
    exact zrow_own (Blk.new w2 _ _) (by omega)
  obtain ⟨ab, hab⟩ : ∃ ab, ab = w2.heap.size := ⟨_, rfl⟩
  rw [← hab] at hob
  have HAB := Lib.hid hab
  have HOB := Lib.hid hob
  have HF3 : Hid (Fr No w2 (w2.alloc (.cells (zrow n (.bool false)).toArray 4))) := Lib.hid ((Fr.refl _ _).alloc _)
  clear hob
  go_upto_block 0 with (fail)
  rw [← hab]
  clear hab
  generalize w2.alloc (.cells (zrow n (.bool false)).toArray 4) = w3 at *
  go_cut [7] (fun a7 wx => a7 = .slice (some ⟨ab, 0, none⟩) n n ∧ LpA n ab w3 n wx)
  case first =>
    go_wp2
    go_loopw [8] (fun iv wr => ∃ i : Nat, iv = .int .i64 (i : Int) ∧ i ≤ n ∧ LpA n ab w3 i wr) (fun iv _ => n - (intOf iv).toNat)
    case atStart => exact ⟨0, rfl, Nat.zero_le _, HOB.out, Fr.refl _ _⟩
    case round =>
      obtain ⟨i, rfl, hi, ho, hf⟩ := hrel
      have HF := Lib.hid hf
      by_cases hil : i < n
      · have hilI : (i : Int) < (n : Int) := by omega
        obtain ⟨o1, ⟨y1, e1⟩, z1⟩ := ho.store i hil (.bool true)
        have HO1 := Lib.hid o1
        obtain ⟨i1, hi1⟩ : ∃ i1, i1 = i + 1 := ⟨_, rfl⟩
        have hwi : wrap64 ((i : Int) + 1) = (i1 : Int) := by unfold wrap64; omega
        have HI1 := Lib.hid hi1
        clear ho hf o1 hi1
        go_wp2
        go_roundw
        case measure =>
          first
            | (show n - (intOf (Value.int .i64 (wrap64 ((i : Int) + 1)))).toNat < n - (intOf (Value.int .i64 (i : Int))).toNat; rw [hwi]; exact num_lt hil HI1.out)
            | (show n - (intOf (Value.int .i64 ((i : Int) + 1))).toNat < n - (intOf (Value.int .i64 (i : Int))).toNat; exact num_lt hil rfl)
        case rel =>
          refine ⟨i1, by first | rw [hwi] | (rw [HI1.out]; rfl), by rw [HI1.out]; exact hil, ?_, HF.out.setCell (p := ⟨ab, i, none⟩) (fun _ => rfl) _⟩
          have h1 := HO1.out
          rw [bl_set _ _ _ _ hil, bl_congr (r := fun k => decide (k < i1)) (fun k _ => by
            by_cases e : k = i
            · subst e; rw [upN_at, HI1.out]; simp
            · rw [upN_ne _ _ e, HI1.out, Bool.eq_iff_iff, decide_eq_true_iff, decide_eq_true_iff]; omega)] at h1
          exact h1
      · have hilI : ¬ (i : Int) < (n : Int) := by omega
        have hie : i = n := by omega
        have HO1 := Lib.hid ho
        clear ho hf
        go_wp2
        go_meet
        case rel =>
          have h1 := HO1.out
          rw [hie] at h1
          exact ⟨rfl, h1, HF.out⟩
  case rest =>
    obtain ⟨rfl, ho4, hf4⟩ := hcut
    generalize wc = w4 at *
    have HF4 : Hid (Fr No w2 w4) := Lib.hid (HF3.out.trans' hf4 fun k hk hlt => by
      have hk : k = ab := hk
      have h1 := HAB.out
      omega)
    rw [bl_map] at ho4
    have hall : ((List.range n).map fun k => decide (k < n)).length = n := by simp
    have HO4 := Lib.hid ho4.rd
    have HA : Hid (Calls Try.prog 17 #[.slice B n d, .slice (some ⟨ab, 0, none⟩) n n] w4 fun e w' => ∃ (A1 : Option Addr) (c1 : Nat), e = .returned (.slice A1 n c1) ∧ Fr No w4 w') := Lib.hid (by
      have hr := ho4.rd
      rw [← hall] at hr
      have h := HOP.out w4 HF4.out _ (some ⟨ab, 0, none⟩) n ((List.range n).map fun k => decide (k < n)) (by rw [hall] at hr ⊢; exact ho4.rd) (by rw [hall]; omega)
      rw [hall] at h
      refine h.mono ?_
      rintro e w' ⟨L, p1, p2, v', rfl, p3, p4, p5⟩
      have hl : L.length = n := range_len p1 fun y => by
        rw [p2, open_all (fun a ha => by rw [HGN.out] at ha; rw [unk_map _ ha]; simp [ha]), HGN.out]
      obtain ⟨A1, c1, rfl, _⟩ := p3.form
      exact ⟨A1, c1, by rw [hl], fr_at_none p4⟩)
    have HN : Hid (∀ w5, Fr No w2 w5 → Calls Try.prog 17 #[.slice B n d, .slice none 0 0] w5 fun e w' => ∃ (A1 : Option Addr) (c1 : Nat), e = .returned (.slice A1 0 c1) ∧ Fr No w5 w') := Lib.hid (fun w5 h5 => by
      have h := HOP.out w5 h5 (fun _ => True) none 0 [] Rd.none_ (Nat.zero_le _)
      refine Calls.mono h ?_
      rintro e w' ⟨L, p1, p2, v', rfl, p3, p4, p5⟩
      have hl : L = [] := by
        cases L with
        | nil => rfl
        | cons y r => exact absurd ((p2 y).1 List.mem_cons_self) (open_nil y)
      subst hl
      obtain ⟨A1, c1, rfl, _⟩ := p3.form
      exact ⟨A1, c1, rfl, fr_at_none p4⟩)
    clear ho4 hf4 hall
    by_cases hn0 : n = 0
    · subst hn0
      go_wp2_with (first
        | (go_at_call 17; (with_reducible refine HA.out.mono ?_); rintro _ w5 ⟨A5, c5, rfl, f5⟩; have HF5 := Lib.hid (HF4.out.trans f5); clear f5)
        | (go_at_call 17; (with_reducible refine (HN.out _ HF5.out).mono ?_); rintro _ w6 ⟨A6, c6, rfl, f6⟩; have HF6 := Lib.hid (HF5.out.trans f6); clear f6))
      go_ret
      exact ⟨rfl, (HF2.out.trans HF6.out).belowNo⟩
    · obtain ⟨k, hkk, hkn⟩ := umod x n (by omega) (by omega)
      have hnI : ((n : Int) == 0) = false := by rw [beq_eq_false_iff_ne]; omega
      have hnI2 : (n == 0) = false := by rw [beq_eq_false_iff_ne]; omega
      have hmk3 := hmk2
      clear hn0
      go_upto_region 14 with (first
        | (go_at_call 17; (with_reducible refine HA.out.mono ?_); rintro _ w5 ⟨A5, c5, rfl, f5⟩; have HF5 := Lib.hid (HF4.out.trans f5); clear f5)
        | (go_at_call 17; (with_reducible refine (HN.out _ HF5.out).mono ?_); rintro _ w6 ⟨A6, c6, rfl, f6⟩; have HF6 := Lib.hid (HF5.out.trans f6); clear f6))
      simp only [hkk]
      obtain ⟨mb, hmb⟩ : ∃ mb, mb = w6.heap.size := ⟨_, rfl⟩
      have hom : Own (w6.alloc (.cells (zrow n (.bool false)).toArray 4)) 4 1 (.slice (some ⟨mb, 0, none⟩) n n) n (bl (moreF kl k 0) n) := by
        rw [bl_congr (r := fun _ => false) (fun a _ => by unfold moreF; simp), bl_zero, hmb]
        exact zrow_own (Blk.new w6 _ _) (by omega)
      have HOM := Lib.hid hom
      have HMB := Lib.hid hmb
      have HF7 : Hid (Fr No w2 (w6.alloc (.cells (zrow n (.bool false)).toArray 4))) := Lib.hid (HF6.out.alloc _)
      have HF67 : Hid (Fr No w6 (w6.alloc (.cells (zrow n (.bool false)).toArray 4))) := Lib.hid ((Fr.refl _ _).alloc _)
      clear hom
      go_upto_block 2 with (fail)
      rw [← hmb]
      clear hmb
      generalize w6.alloc (.cells (zrow n (.bool false)).toArray 4) = w7 at *
      go_cut [10] (fun a10 wx => a10 = .slice (some ⟨mb, 0, none⟩) n n ∧ LpM n mb k kl w7 n wx)
      case first =>
        go_wp2
        go_loopw [11] (fun iv wr => ∃ i : Nat, iv = .int .i64 (i : Int) ∧ i ≤ n ∧ LpM n mb k kl w7 i wr) (fun iv _ => n - (intOf iv).toNat)
        case atStart => exact ⟨0, rfl, Nat.zero_le _, HOM.out, Fr.refl _ _⟩
        case round =>
          obtain ⟨i, rfl, hi, ho, hf⟩ := hrel
          have HF := Lib.hid hf
          by_cases hil : i < n
          · have hilI : (i : Int) < (n : Int) := by omega
            obtain ⟨o1, ⟨y1, e1⟩, z1⟩ := ho.store i hil (.bool (!unk kl i || i == k))
            rw [bl_set _ _ _ _ hil, moreF_set kl k i n _ rfl] at o1
            have HO1 := Lib.hid o1
            obtain ⟨i1, hi1⟩ : ∃ i1, i1 = i + 1 := ⟨_, rfl⟩
            have hwi : wrap64 ((i : Int) + 1) = (i1 : Int) := by unfold wrap64; omega
            have HI1 := Lib.hid hi1
            obtain ⟨v2, hv2⟩ : ∃ v2, v2 = (i == k) := ⟨_, rfl⟩
            have hik : ((i : Int) == (k : Int)) = v2 := by rw [hv2, Bool.eq_iff_iff, beq_iff_eq, beq_iff_eq]; omega
            have hik2 : (i == k) = v2 := hv2.symm
            rw [hik2] at HO1
            have HFR : Hid (∀ v : Bool, Fr (At1 mb) w7 (wr.setCell ⟨mb, i, none⟩ (.bool v))) := Lib.hid fun v => HF.out.setCell (p := ⟨mb, i, none⟩) (fun _ => rfl) _
            have HKW : Hid ((h : i < kl.length) → ∃ ad, K = some ad ∧ wr.cell? (ad.add i) = some (.bool kl[i])) := Lib.hid (fun h => by
              have hno : Fr No w2 wr := HF7.out.trans' HF.out fun x hx hlt => by
                have hx : x = mb := hx
                have h1 := HMB.out
                have h2 := HF6.out.size
                omega
              obtain ⟨ad, u, e, _, hu, hc⟩ := (HKL.out wr (HF2.out.trans hno)).at_ (k := i) h
              rw [List.getElem?_map, List.getElem?_eq_getElem h] at hu
              injection hu with hu
              subst hu
              exact ⟨ad, e, hc⟩)
            clear ho hf o1 hi1 hv2
            by_cases hki : i < kl.length
            · obtain ⟨adk, hKe, hck⟩ := HKW.out hki
              have hkiI : (i : Int) < (kl.length : Int) := by omega
              obtain ⟨b, hb⟩ : ∃ b, b = kl[i] := ⟨_, rfl⟩
              rw [← hb] at hck
              have HUB : Hid (unk kl i = !b) := Lib.hid (by rw [unk_in hki, hb])
              (first | subst hKe | (injection hKe with hKe; subst hKe))
              clear hb hki
              cases b with
              | true =>
                have HO2 := HO1
                rw [HUB.out] at HO2
                go_wp2
                go_roundw
                case measure =>
                  first
                    | (show n - (intOf (Value.int .i64 (wrap64 ((i : Int) + 1)))).toNat < n - (intOf (Value.int .i64 (i : Int))).toNat; rw [hwi]; exact num_lt hil HI1.out)
                    | (show n - (intOf (Value.int .i64 ((i : Int) + 1))).toNat < n - (intOf (Value.int .i64 (i : Int))).toNat; exact num_lt hil rfl)
                case rel => exact ⟨i1, by first | rw [hwi] | (rw [HI1.out]; rfl), by rw [HI1.out]; exact hil, by rw [HI1.out]; exact HO2.out, HFR.out _⟩
              | false =>
                have HO2 := HO1
                rw [HUB.out] at HO2
                go_wp2
                go_roundw
                case measure =>
                  first
                    | (show n - (intOf (Value.int .i64 (wrap64 ((i : Int) + 1)))).toNat < n - (intOf (Value.int .i64 (i : Int))).toNat; rw [hwi]; exact num_lt hil HI1.out)
                    | (show n - (intOf (Value.int .i64 ((i : Int) + 1))).toNat < n - (intOf (Value.int .i64 (i : Int))).toNat; exact num_lt hil rfl)
                case rel => exact ⟨i1, by first | rw [hwi] | (rw [HI1.out]; rfl), by rw [HI1.out]; exact hil, by rw [HI1.out]; exact HO2.out, HFR.out _⟩
            · have hkiI : ¬ (i : Int) < (kl.length : Int) := by omega
              have HUB : Hid (unk kl i = true) := Lib.hid (unk_out hki)
              have HO2 := HO1
              rw [HUB.out] at HO2
              clear hki
              go_wp2
              go_roundw
              case measure =>
                first
                  | (show n - (intOf (Value.int .i64 (wrap64 ((i : Int) + 1)))).toNat < n - (intOf (Value.int .i64 (i : Int))).toNat; rw [hwi]; exact num_lt hil HI1.out)
                  | (show n - (intOf (Value.int .i64 ((i : Int) + 1))).toNat < n - (intOf (Value.int .i64 (i : Int))).toNat; exact num_lt hil rfl)
              case rel => exact ⟨i1, by first | rw [hwi] | (rw [HI1.out]; rfl), by rw [HI1.out]; exact hil, by rw [HI1.out]; exact HO2.out, HFR.out _⟩
          · have hilI : ¬ (i : Int) < (n : Int) := by omega
            have hie : i = n := by omega
            have HO1 := Lib.hid ho
            clear ho hf
            go_wp2
            go_meet
            case rel =>
              have h1 := HO1.out
              rw [hie] at h1
              exact ⟨rfl, h1, HF.out⟩
      case rest =>
        obtain ⟨rfl, ho8, hf8⟩ := hcut
        generalize wc = w8 at *
        have HF8 : Hid (Fr No w2 w8) := Lib.hid (HF7.out.trans' hf8 fun y hy hlt => by
          have hy : y = mb := hy
          have h1 := HMB.out
          have h2 := HF6.out.size
          omega)
        rw [bl_map] at ho8
        obtain ⟨ml, hml⟩ : ∃ ml, ml = (List.range n).map (moreF kl k n) := ⟨_, rfl⟩
        have hmll : ml.length = n := by rw [hml]; simp
        have hmore : moreOf kl ml G.length k := by rw [HGN.out, hml]; exact more_all kl n k
        rw [← hml] at ho8
        have HMORE := Lib.hid hmore
        have HO8 := Lib.hid ho8
        have HMLL := Lib.hid hmll
        clear ho8 hf8 hmore hmll hml
        have HPA := Lib.hid (HOP.out w8 HF8.out _ K kc kl (HKL.out w8 (HF2.out.trans HF8.out)) HKB.out)
        have HPB : Hid (∀ w9, Fr No w8 w9 → Calls Try.prog 17 #[.slice B n d, .slice (some ⟨mb, 0, none⟩) n n] w9 (RetX w9 (openX G ml))) := Lib.hid (fun w9 h9 => by
          have h1 := HOP.out w9 (HF8.out.trans h9) _ (some ⟨mb, 0, none⟩) n ml (by rw [HMLL.out]; exact (HO8.out.fr h9 (fun _ _ h => h)).rd) (by rw [HMLL.out]; omega)
          rw [HMLL.out] at h1
          exact h1)
        have HLN : Hid (∀ (L : List Int) (ql : List Bool), L.Pairwise (· < ·) → (∀ y, y ∈ L ↔ openX G ql y) → L.length ≤ 1000) := Lib.hid (fun L ql p1 p2 => by
          have h1 := retx_len (n := n) p1 (fun y hy => by
            obtain ⟨a, ha, rfl, _⟩ := (openX_iff G ql y).1 ((p2 y).1 hy)
            rw [HGN.out] at ha
            omega)
          omega)
        go_upto_block 4 with (first
          | (go_at_call 17; (with_reducible refine HPA.out.mono ?_); rintro _ w9 ⟨La, p1, p2, v9, rfl, p3, p4, p5⟩; obtain ⟨Aa, ca, rfl, _, _⟩ := p3.form; have f9 := fr_at_none p4; have HF9 := Lib.hid f9; have HA1 := Lib.hid p1; have HA2 := Lib.hid p2; have HA3 := Lib.hid p3; clear p1 p2 p3 p4 p5 f9)
          | (go_at_call 17; (with_reducible refine (HPB.out _ HF9.out).mono ?_); rintro _ w10 ⟨Lb, p1, p2, v10, rfl, p3, p4, p5⟩; obtain ⟨Ab, cb, rfl, _, _⟩ := p3.form; have f10 := fr_at_none p4; have HF10 := Lib.hid f10; have HB1 := Lib.hid p1; have HB2 := Lib.hid p2; have HB3 := Lib.hid p3; clear p1 p2 p3 p4 p5 f10))
        have HA4 : Hid (Own w10 3 1 (.slice Aa La.length ca) La.length (is_ La)) := Lib.hid (HA3.out.fr HF10.out (fun _ _ h => h))
        have hlA := HLN.out La kl HA1.out HA2.out
        have hlB := HLN.out Lb ml HB1.out HB2.out
        have HFT : Hid (Fr No w2 w10) := Lib.hid ((HF8.out.trans HF9.out).trans HF10.out)
        have HBH : Hid (∀ (W : World) (z : Int), Fr No w10 W → z ∈ Lb → Calls Try.prog 19 #[.slice Ab Lb.length cb, .int .i64 z] W fun e w' => e = .returned (.bool true) ∧ w' = W) := Lib.hid (fun W z hW hz => by
          have h1 := has_any W _ Ab cb Lb z (HB3.out.rd.no_ hW) (by omega)
          rw [decide_eq_true hz] at h1
          exact h1)
        have HAH : Hid (∀ (W : World) (z : Int) (q : Bool), Fr No w10 W → q = decide (z ∈ La) → Calls Try.prog 19 #[.slice Aa La.length ca, .int .i64 z] W fun e w' => e = .returned (.bool q) ∧ w' = W) := Lib.hid (fun W z q hW hq => by
          have h1 := has_any W _ Aa ca La z (HA4.out.rd.no_ hW) (by omega)
          rw [← hq] at h1
          exact h1)
        go_cut [12] (fun a12 wx => a12 = .slice Aa La.length ca ∧ w10 = wx)
        case first =>
          go_wp2
          go_loopw [14] (fun iv wr => ∃ i : Nat, iv = .int .i64 (i : Int) ∧ i ≤ La.length ∧ w10 = wr) (fun iv _ => La.length - (intOf iv).toNat)
          case atStart => exact ⟨0, rfl, Nat.zero_le _, rfl⟩
          case round =>
            obtain ⟨i, rfl, hi, hw⟩ := hrel
            obtain rfl := hw
            by_cases hil : i < La.length
            · have hilI : (i : Int) < (La.length : Int) := by omega
              obtain ⟨ad, u, rfl, _, hu, hc⟩ := HA4.out.rd.at_ (k := i) hil
              rw [is_at _ i hil] at hu
              injection hu with hu
              subst hu
              have HHB := Lib.hid (HBH.out w10 La[i] (Fr.refl _ _) ((HB2.out _).2 (open_more HMORE.out ((HA2.out _).1 (List.getElem_mem hil)))))
              generalize La[i] = y at *
              obtain ⟨i1, hi1⟩ : ∃ i1, i1 = i + 1 := ⟨_, rfl⟩
              have hwi : wrap64 ((i : Int) + 1) = (i1 : Int) := by unfold wrap64; omega
              have HI1 := Lib.hid hi1
              clear hi1
              go_wp2_with (go_at_call 19; (with_reducible refine HHB.out.mono ?_); rintro _ w11 ⟨rfl, hw⟩; obtain rfl : w10 = w11 := hw.symm)
              go_roundw
              case measure =>
                first
                  | (show La.length - (intOf (Value.int .i64 (wrap64 ((i : Int) + 1)))).toNat < La.length - (intOf (Value.int .i64 (i : Int))).toNat; rw [hwi]; exact num_lt hil HI1.out)
                  | (show La.length - (intOf (Value.int .i64 ((i : Int) + 1))).toNat < La.length - (intOf (Value.int .i64 (i : Int))).toNat; exact num_lt hil rfl)
              case rel => exact ⟨i1, by first | rw [hwi] | (rw [HI1.out]; rfl), by rw [HI1.out]; exact hil, by first | rfl | trivial⟩
            · have hilI : ¬ (i : Int) < (La.length : Int) := by omega
              go_wp2
              go_meet
              case rel => exact ⟨rfl, rfl⟩
        case rest =>
          obtain ⟨rfl, hw⟩ := hcut
          obtain rfl := hw
          go_wp2
          go_loopw [15] (fun iv wr => ∃ i : Nat, iv = .int .i64 (i : Int) ∧ i ≤ Lb.length ∧ Fr No w10 wr) (fun iv _ => Lb.length - (intOf iv).toNat)
          case atStart => exact ⟨0, rfl, Nat.zero_le _, Fr.refl _ _⟩
          case round =>
            obtain ⟨i, rfl, hi, hf⟩ := hrel
            have HF := Lib.hid hf
            clear hf
            by_cases hil : i < Lb.length
            · have hilI : (i : Int) < (Lb.length : Int) := by omega
              have HBO : Hid (∀ W, Fr No w10 W → ∃ ad, Ab = some ad ∧ W.cell? (ad.add i) = some (.int .i64 Lb[i])) := Lib.hid (fun W hW => by
                obtain ⟨ad, u, e, _, hu, hc⟩ := (HB3.out.rd.no_ hW).at_ (k := i) hil
                rw [is_at _ i hil] at hu
                injection hu with hu
                subst hu
                exact ⟨ad, e, hc⟩)
              have HYB : Hid (openX G ml Lb[i]) := Lib.hid ((HB2.out _).1 (List.getElem_mem hil))
              generalize Lb[i] = y at *
              obtain ⟨ad, rfl, hc⟩ := HBO.out wr HF.out
              have HRY := Lib.hid (HRE.out wr (HFT.out.trans HF.out) y)
              obtain ⟨i1, hi1⟩ : ∃ i1, i1 = i + 1 := ⟨_, rfl⟩
              have hwi : wrap64 ((i : Int) + 1) = (i1 : Int) := by unfold wrap64; omega
              have HI1 := Lib.hid hi1
              clear hi1
              go_upto_block 8 with (go_at_call 16; (with_reducible refine HRY.out.mono ?_); rintro _ w12 ⟨Lr, p1, p2, v12, rfl, p3, p4, p5⟩; obtain ⟨Ar, cr, rfl, _, _⟩ := p3.form; have f12 := fr_at_none p4; have HF12 := Lib.hid (HF.out.trans f12); have HR1 := Lib.hid p1; have HR2 := Lib.hid p2; have HR3 := Lib.hid p3; clear p1 p2 p3 p4 p5 f12)
              have hlR : Lr.length ≤ 1000 := by
                have h1 := retx_len (n := n) HR1.out (fun z hz => by
                  obtain ⟨i0, j0, _, rfl, ht⟩ := (reachX_iff G y z).1 ((HR2.out z).1 hz)
                  have h2 := ((reachR G).lt i0 j0 ((vtr G i0 j0).2 ht)).2
                  rw [HGN.out] at h2
                  omega)
                omega
              go_cut [16] (fun a16 wx => a16 = .slice Ar Lr.length cr ∧ w12 = wx)
              case first =>
                go_wp2
                go_loopw [17] (fun jv wr => ∃ j : Nat, jv = .int .i64 (j : Int) ∧ j ≤ Lr.length ∧ w12 = wr) (fun jv _ => Lr.length - (intOf jv).toNat)
                case atStart => exact ⟨0, rfl, Nat.zero_le _, rfl⟩
                case round =>
                  obtain ⟨j, rfl, hj, hw⟩ := hrel
                  obtain rfl := hw
                  by_cases hjl : j < Lr.length
                  · have hjlI : (j : Int) < (Lr.length : Int) := by omega
                    obtain ⟨adr, u, rfl, _, hu, hcr⟩ := HR3.out.rd.at_ (k := j) hjl
                    rw [is_at _ j hjl] at hu
                    injection hu with hu
                    subst hu
                    have HHB := Lib.hid (HBH.out w12 Lr[j] HF12.out ((HB2.out _).2 (open_reach HYB.out ((HR2.out _).1 (List.getElem_mem hjl)))))
                    generalize Lr[j] = z at *
                    obtain ⟨j1, hj1⟩ : ∃ j1, j1 = j + 1 := ⟨_, rfl⟩
                    have hwj : wrap64 ((j : Int) + 1) = (j1 : Int) := by unfold wrap64; omega
                    have HJ1 := Lib.hid hj1
                    clear hj1
                    go_wp2_with (go_at_call 19; (with_reducible refine HHB.out.mono ?_); rintro _ w13 ⟨rfl, hw⟩; obtain rfl : w12 = w13 := hw.symm)
                    go_roundw
                    case measure =>
                      first
                        | (show Lr.length - (intOf (Value.int .i64 (wrap64 ((j : Int) + 1)))).toNat < Lr.length - (intOf (Value.int .i64 (j : Int))).toNat; rw [hwj]; exact num_lt hjl HJ1.out)
                        | (show Lr.length - (intOf (Value.int .i64 ((j : Int) + 1))).toNat < Lr.length - (intOf (Value.int .i64 (j : Int))).toNat; exact num_lt hjl rfl)
                    case rel => exact ⟨j1, by first | rw [hwj] | (rw [HJ1.out]; rfl), by rw [HJ1.out]; exact hjl, by first | rfl | trivial⟩
                  · have hjlI : ¬ (j : Int) < (Lr.length : Int) := by omega
                    go_wp2
                    go_meet
                    case rel => exact ⟨rfl, rfl⟩
              case rest =>
                obtain ⟨rfl, hw⟩ := hcut
                obtain rfl := hw
                obtain ⟨q, hq⟩ : ∃ q, q = decide (y ∈ La) := ⟨_, rfl⟩
                have HHA := Lib.hid (HAH.out w12 y q HF12.out hq)
                have HQ := Lib.hid hq
                obtain ⟨ad', e', hc2⟩ := HBO.out w12 HF12.out
                injection e' with e'
                subst e'
                clear hq hc
                cases q with
                | true =>
                  go_wp2_with (go_at_call 19; (with_reducible refine HHA.out.mono ?_); rintro _ w13 ⟨rfl, hw⟩; obtain rfl : w12 = w13 := hw.symm)
                  go_roundw
                  case measure =>
                    first
                      | (show Lb.length - (intOf (Value.int .i64 (wrap64 ((i : Int) + 1)))).toNat < Lb.length - (intOf (Value.int .i64 (i : Int))).toNat; rw [hwi]; exact num_lt hil HI1.out)
                      | (show Lb.length - (intOf (Value.int .i64 ((i : Int) + 1))).toNat < Lb.length - (intOf (Value.int .i64 (i : Int))).toNat; exact num_lt hil rfl)
                  case rel => exact ⟨i1, by first | rw [hwi] | (rw [HI1.out]; rfl), by rw [HI1.out]; exact hil, HF12.out⟩
                | false =>
                  by_cases hyk : y = (k : Int)
                  · have hykI : (y != (k : Int)) = false := by rw [hyk]; simp
                    clear hyk
                    go_wp2_with (go_at_call 19; (with_reducible refine HHA.out.mono ?_); rintro _ w13 ⟨rfl, hw⟩; obtain rfl : w12 = w13 := hw.symm)
                    go_roundw
                    case measure =>
                      first
                        | (show Lb.length - (intOf (Value.int .i64 (wrap64 ((i : Int) + 1)))).toNat < Lb.length - (intOf (Value.int .i64 (i : Int))).toNat; rw [hwi]; exact num_lt hil HI1.out)
                        | (show Lb.length - (intOf (Value.int .i64 ((i : Int) + 1))).toNat < Lb.length - (intOf (Value.int .i64 (i : Int))).toNat; exact num_lt hil rfl)
                    case rel => exact ⟨i1, by first | rw [hwi] | (rw [HI1.out]; rfl), by rw [HI1.out]; exact hil, HF12.out⟩
                  · have hykI : (y != (k : Int)) = true := by simpa using hyk
                    have hno : ¬ openX G kl y := fun h => of_decide_eq_false HQ.out.symm ((HA2.out y).2 h)
                    have hrk : (k : Int) ∈ Lr := (HR2.out _).2 (open_new HMORE.out HYB.out hno hyk)
                    have HHR : Hid (Calls Try.prog 19 #[.slice Ar Lr.length cr, .int .i64 (k : Int)] w12 fun e w' => e = .returned (.bool true) ∧ w' = w12) := Lib.hid (by
                      have h1 := has_any w12 _ Ar cr Lr (k : Int) HR3.out.rd (by omega)
                      rw [decide_eq_true hrk] at h1
                      exact h1)
                    clear hyk hno hrk
                    go_wp2_with (first
                      | (go_at_call 19; (with_reducible refine HHA.out.mono ?_); rintro _ w13 ⟨rfl, hw⟩; obtain rfl : w12 = w13 := hw.symm)
                      | (go_at_call 19; (with_reducible refine HHR.out.mono ?_); rintro _ w13 ⟨rfl, hw⟩; obtain rfl : w12 = w13 := hw.symm))
                    go_roundw
                    case measure =>
                      first
                        | (show Lb.length - (intOf (Value.int .i64 (wrap64 ((i : Int) + 1)))).toNat < Lb.length - (intOf (Value.int .i64 (i : Int))).toNat; rw [hwi]; exact num_lt hil HI1.out)
                        | (show Lb.length - (intOf (Value.int .i64 ((i : Int) + 1))).toNat < Lb.length - (intOf (Value.int .i64 (i : Int))).toNat; exact num_lt hil rfl)
                    case rel => exact ⟨i1, by first | rw [hwi] | (rw [HI1.out]; rfl), by rw [HI1.out]; exact hil, HF12.out⟩
            · have hilI : ¬ (i : Int) < (Lb.length : Int) := by omega
              go_wp2
              go_ret
              exact ⟨rfl, ((HF2.out.trans HFT.out).trans HF.out).belowNo⟩
end Go.Proofs.Ytcjofakhefpfdaa
