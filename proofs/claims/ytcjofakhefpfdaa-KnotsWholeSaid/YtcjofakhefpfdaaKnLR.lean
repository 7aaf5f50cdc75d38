/- KnotsReach: the walk. -/
import Derived.Test.YtcjofakhefpfdaaKnL1
import Derived.Test.YtcjofakhefpfdaaKnL3
import Derived.Test.YtcjofakhefpfdaaKnOp
namespace Go.Proofs.Ytcjofakhefpfdaa
open Go.RowKit Go.My Go.My.Kn Go.Maps
set_option linter.unusedSimpArgs false
set_option linter.unusedVariables false
attribute [local go_sem ↓] Go.wp_at_zero Go.wp_at_succ

/-- two rising lists that hold the same are the same -/
theorem up_eqI : ∀ {l m : List Int}, l.Pairwise (· < ·) → m.Pairwise (· < ·) → (∀ x, x ∈ l ↔ x ∈ m) → l = m
  | [], [], _, _, _ => rfl
  | [], b :: m, _, _, h => by have := (h b).2 List.mem_cons_self; cases this
  | a :: l, [], _, _, h => by have := (h a).1 List.mem_cons_self; cases this
  | a :: l, b :: m, h1, h2, h => by
    rw [List.pairwise_cons] at h1 h2
    have e : a = b := by
      have p := (h a).1 List.mem_cons_self
      have q := (h b).2 List.mem_cons_self
      rcases List.mem_cons.1 p with p | p
      · exact p
      · rcases List.mem_cons.1 q with q | q
        · exact q.symm
        · have := h1.1 b q; have := h2.1 a p; omega
    subst e
    rw [up_eqI h1.2 h2.2 fun x => ?_]
    constructor
    · intro hx
      rcases List.mem_cons.1 ((h x).1 (List.mem_cons_of_mem _ hx)) with e | e
      · subst e; have := h1.1 x hx; omega
      · exact e
    · intro hx
      rcases List.mem_cons.1 ((h x).2 (List.mem_cons_of_mem _ hx)) with e | e
      · subst e; have := h2.1 x hx; omega
      · exact e
/-- two that are told alike are the same -/
theorem same_told {W : World} {X : Int → Prop} {F1 F2 : Nat → Prop} {A B : Option Addr} {c d : Nat} {La Lb : List Int} (ha : La.Pairwise (· < ·)) (hb : Lb.Pairwise (· < ·)) (h1 : ∀ x, x ∈ La ↔ X x) (h2 : ∀ x, x ∈ Lb ↔ X x) (hl : Rd W F1 1 A La.length (is_ La)) (hr : Rd W F2 1 B Lb.length (is_ Lb)) (hn : Lb.length ≤ 1000000) :
    Calls Try.prog 13 #[.slice A La.length c, .slice B Lb.length d] W fun e w' => e = .returned (.bool true) ∧ Fr No W w' := by
  obtain rfl := up_eqI ha hb fun x => (h1 x).trans (h2 x).symm
  have h := sameI_any W F1 F2 A B c d La La hl hr hn
  refine h.mono ?_
  rintro e w' ⟨rfl, hf⟩
  exact ⟨by simp, hf⟩
/-- the first k places that are reached -/
def WnR (n : Nat) (V : Nat → Nat → Bool) (f : Nat) (w1 : World) (ov iv : Value) (wr : World) : Prop :=
  ∃ (k : Nat) (B : Option Addr) (d : Nat) (L : List Nat), L = (List.range k).filter (V f) ∧ ov = .slice B L.length d ∧ iv = .int .i64 (k : Int) ∧ k ≤ n ∧ Own wr 3 1 (.slice B L.length d) L.length (nl L) ∧ (∀ k, (Value.slice B L.length d).ownBlock = some k → w1.heap.size ≤ k) ∧ Fr No w1 wr
theorem retx_len {n : Nat} {L : List Int} (h : L.Pairwise (· < ·)) (hx : ∀ x ∈ L, 0 ≤ x ∧ x < (n : Int)) : L.length ≤ n := nodup_le (h.imp fun h e => by omega) hx
/-- what KnotsReach asks of a list behind its loop -/
def WnE (G : List (List Int)) (x : Int) (w1 : World) (ov : Value) (wr : World) : Prop :=
  ∃ (B : Option Addr) (d : Nat) (L : List Int), ov = .slice B L.length d ∧ L.Pairwise (· < ·) ∧ (∀ y, y ∈ L ↔ reachX G x y) ∧ L.length ≤ 1000 ∧ Own wr 3 1 (.slice B L.length d) L.length (is_ L) ∧ Fr No w1 wr

set_option maxRecDepth 100000 in
set_option maxHeartbeats 4000000 in
theorem knotsReach_walk (A : Option Addr) (c : Nat) (g : List (List Int)) (K : Option Addr) (kc : Nat) (kl : List Bool) (x : Int) (W : World) (hg : RdG W (Lt W.heap.size) A g) (lc : g.length ≤ c) (cm : c ≤ maxLen) (hk : Rd W (Lt W.heap.size) 1 K kl.length (kl.map Value.bool)) (lk : kl.length ≤ kc) (ck : kc ≤ maxLen) (bx : -9223372036854775808 ≤ x ∧ x ≤ 9223372036854775807) :
    Calls Try.prog 4 #[.slice A g.length c, .slice K kl.length kc, .int .i64 x] W (RetTrue W) := by
  have hmax : maxLen ≤ 9223372036854775807 := by simp [maxLen]
  have HFW : Hid (∀ w1, Fr No W w1 → Calls Try.prog 10 #[.slice A g.length c, .int .i64 30] w1 (FewR w1 (Lt W.heap.size) g 30)) := Lib.hid (fun w1 h1 => few_any w1 (Lt W.heap.size) A c 30 g (hg.no h1) (by omega) (by omega))
  have HKL : Hid (∀ w1, Fr No W w1 → Rd w1 (Lt W.heap.size) 1 K kl.length (kl.map Value.bool)) := Lib.hid (fun w1 h1 => hk.no_ h1)
  have hkl : kl.length ≤ 9223372036854775807 := by omega
  have HKB := Lib.hid hkl
  have HLV := Lib.hid (lives13 W)
  clear hg lc cm hk lk ck hmax hkl
  go_enter Try.func4, Try.ntmps4
  go_upto_region 4 with (first
    | (go_at_call 9; (with_reducible refine HLV.out.mono ?_); rintro _ w1 ⟨rfl, hf1⟩; have HF1 := Lib.hid hf1; clear hf1)
    | (go_at_call 10; (with_reducible refine (HFW.out _ HF1.out).mono ?_); rintro _ w2 ⟨B, d, rfl, hg2, hf2⟩; have HG2 := Lib.hid hg2; have HF2 := Lib.hid (HF1.out.trans hf2); clear hg2 hf2))
  have hn30 : (fewG g 30).length ≤ 30 := by rw [fewG_len]; omega
  have hm20 : ∀ L ∈ fewG g 30, L.length ≤ 20 := fewG_row
  generalize fewG g 30 = G at *
  generalize hgn : G.length = n at *
  have HTB : Hid (Calls Try.prog 15 #[.slice B n d] w2 (TabR w2 G n)) := Lib.hid (tab_any w2 _ B d n G hgn.symm HG2.out (by omega) (fun L hL => Nat.le_trans (hm20 L hL) (by omega)))
  have HRE : Hid (∀ w3, Fr No w2 w3 → Calls Try.prog 16 #[.slice B n d, .int .i64 x] w3 (RetX w3 (reachX G x))) := Lib.hid (fun w3 h3 => by
    have h := reach_any w3 _ B d G x (HG2.out.no h3) (by omega) (fun L hL => Nat.le_trans (hm20 L hL) (by omega))
    rw [hgn] at h; exact h)
  have HOP : Hid (∀ w3, Fr No w2 w3 → Calls Try.prog 17 #[.slice B n d, .slice K kl.length kc] w3 (RetX w3 (openX G kl))) := Lib.hid (fun w3 h3 => by
    have h := open_any2 w3 _ _ B K d kc G kl (HG2.out.no h3) (HKL.out w3 (HF2.out.trans h3)) (by omega) (fun L hL => Nat.le_trans (hm20 L hL) (by omega)) HKB.out
    rw [hgn] at h; exact h)
  have HRO : Hid (∀ w3, Fr No w2 w3 → Calls Try.prog 18 #[.slice B n d, .slice K kl.length kc] w3 (RetX w3 (openX G kl))) := Lib.hid (fun w3 h3 =>
    refopen_any w3 _ _ B K d kc n G kl hgn.symm (HG2.out.no h3) (HKL.out w3 (HF2.out.trans h3)) (by omega) (fun L hL => Nat.le_trans (hm20 L hL) (by omega)))
  have HGN := Lib.hid hgn
  clear hgn hm20
  go_upto_block 0 with (go_at_call 15; (with_reducible refine HTB.out.mono ?_); rintro _ w3 ⟨gs, rfl, ht, hf3⟩; have HT := Lib.hid ht; have HF3 := Lib.hid hf3; clear ht hf3)
  go_cut [8] (fun a8 wx => WnE G x w3 a8 wx)
  case first =>
    by_cases hx : 0 ≤ x ∧ x < (n : Int)
    · obtain ⟨hx0, hxn⟩ := hx
      obtain ⟨f, rfl⟩ : ∃ f : Nat, x = (f : Int) := ⟨x.toNat, by omega⟩
      have hfn : f < n := by omega
      have hf0 : (0 : Int) ≤ (f : Int) := by omega
      go_wp2
      go_loopw [8, 9] (fun ov iv wr => WnR n (via' G) f w3 ov iv wr) (fun _ iv _ => n - (intOf iv).toNat)
      case atStart => exact ⟨0, none, 0, [], rfl, rfl, rfl, Nat.zero_le _, Own.nil _ _ _, fun k hk => by simp [Value.ownBlock] at hk, Fr.refl _ _⟩
      case round =>
        obtain ⟨k, B1, d1, L, hL, rfl, rfl, hk, ho, hnw, hf⟩ := hrel
        have HO := Lib.hid ho
        have HNW := Lib.hid hnw
        have HF := Lib.hid hf
        have HL := Lib.hid hL
        clear ho hnw hf hL
        by_cases hkl : k < n
        · have hklI : (k : Int) < (n : Int) := by omega
          obtain ⟨k1, hk1⟩ : ∃ k1, k1 = k + 1 := ⟨_, rfl⟩
          have hwk : wrap64 ((k : Int) + 1) = (k1 : Int) := by unfold wrap64; omega
          have HK1 := Lib.hid hk1
          obtain ⟨gg, cg, t1, t2⟩ := HT.out.no HF.out f k hfn hkl
          have hX : Hid (L.length + 1 ≤ maxLen ∧ (L.length + 1) * 8 ≤ 140737488355328) := by
            have h1 : L.length ≤ k := by
              rw [HL.out]
              exact Nat.le_trans (List.length_filter_le _ _) (Nat.le_of_eq List.length_range)
            refine ⟨?_, ?_⟩ <;> (try simp only [maxLen]) <;> omega
          obtain ⟨v, hv⟩ : ∃ v, v = via' G f k := ⟨_, rfl⟩
          rw [← hv] at t2
          have hLs : (List.range (k + 1)).filter (via' G f) = L ++ if v then [k] else [] := by
            rw [List.range_succ, List.filter_append, ← HL.out, hv]
            congr 1
            rw [List.filter_cons, List.filter_nil]
          have HLS := Lib.hid hLs
          clear hv hLs hk1
          cases v with
          | false =>
            go_wp2
            go_roundw
            case measure =>
              first
                | (show n - (intOf (Value.int .i64 (wrap64 ((k : Int) + 1)))).toNat < n - (intOf (Value.int .i64 (k : Int))).toNat; rw [hwk]; exact num_lt hkl HK1.out)
                | (show n - (intOf (Value.int .i64 ((k : Int) + 1))).toNat < n - (intOf (Value.int .i64 (k : Int))).toNat; exact num_lt hkl rfl)
            case rel => exact ⟨k1, B1, d1, L, by rw [HK1.out, HLS.out]; simp, rfl, by first | rw [hwk] | (rw [HK1.out]; rfl), by rw [HK1.out]; exact hkl, HO.out, HNW.out, HF.out⟩
          | true =>
            go_wp2_with (at_builtin; refine wpList_app _ rfl (.tmp 39) (.tmp 41) 26 26 rfl elI (HO.out.alloc _) rfl (Src.of_new (cs := #[.int .i64 (k : Int)]) (t := 3) wr.heap.size (heap_alloc_new wr _) Try.underlying26 rfl (by simp [Value.oneCell'])) rfl hX.out.1 hX.out.2 ?_; intro v7 w7 hown7 hfr7 hnew7; obtain ⟨A7, c7, rfl, _, _⟩ := hown7.form; have HO7 := Lib.hid hown7; have HF7 := Lib.hid hfr7; have HN7 := Lib.hid hnew7; clear hown7 hfr7 hnew7)
            go_roundw
            case measure =>
              first
                | (show n - (intOf (Value.int .i64 (wrap64 ((k : Int) + 1)))).toNat < n - (intOf (Value.int .i64 (k : Int))).toNat; rw [hwk]; exact num_lt hkl HK1.out)
                | (show n - (intOf (Value.int .i64 ((k : Int) + 1))).toNat < n - (intOf (Value.int .i64 (k : Int))).toNat; exact num_lt hkl rfl)
            case rel =>
              have hl2 : (L ++ [k]).length = L.length + 1 := by simp
              refine ⟨k1, A7, c7, L ++ [k], by rw [HK1.out, HLS.out]; simp, by rw [hl2], by first | rw [hwk] | (rw [HK1.out]; rfl), by rw [HK1.out]; exact hkl, ?_, fun y hy => ?_, ?_⟩
              · rw [hl2, nl_append]; exact HO7.out
              · rw [hl2] at hy
                rcases HN7.out with e | e
                · exact HNW.out y (e ▸ hy)
                · rw [e] at hy; injection hy with hy; rw [World.size_alloc] at hy; have := HF.out.size; omega
              · exact (HF.out.alloc _).trans' HF7.out fun y hy hlt => by have := HNW.out y hy; omega
        · have hklI : ¬ (k : Int) < (n : Int) := by omega
          have hke : k = n := by omega
          go_wp2
          go_meet
          case rel =>
            have hl : (L.map fun (y : Nat) => (y : Int)).length = L.length := List.length_map _
            refine ⟨B1, d1, L.map fun (y : Nat) => (y : Int), by rw [hl], by rw [HL.out]; exact up_filter _ _, fun y => ?_, ?_, ?_, HF.out⟩
            · rw [reachX_iff, HL.out, List.mem_map, hke]
              constructor
              · rintro ⟨a, ha, rfl⟩
                obtain ⟨h1, h2⟩ := List.mem_filter.1 ha
                exact ⟨f, a, rfl, rfl, (vtr G f a).1 h2⟩
              · rintro ⟨i, j, hi, rfl, h3⟩
                obtain rfl : f = i := by omega
                have h4 := (vtr G f j).2 h3
                exact ⟨j, List.mem_filter.2 ⟨List.mem_range.2 (by rw [← HGN.out]; exact ((reachR G).lt f j h4).2), h4⟩, rfl⟩
            · rw [hl, HL.out]
              exact Nat.le_trans (List.length_filter_le _ _) (by rw [List.length_range]; omega)
            · rw [hl, ← nl_is]; exact HO.out
    · have HXO : Hid (∀ y, ¬ reachX G x y) := Lib.hid (fun y h => hx (by have h1 := h.1; rw [HGN.out] at h1; exact h1))
      go_wp2
      go_loopw [8, 9] (fun ov iv wr => ov = .slice none 0 0 ∧ iv = .int .i64 0 ∧ w3 = wr) (fun _ _ _ => 0)
      case atStart => exact ⟨rfl, rfl, rfl⟩
      case round =>
        obtain ⟨rfl, rfl, rfl⟩ := hrel
        have HEND : Hid (WnE G x w3 (.slice none 0 0) w3) := Lib.hid ⟨none, 0, [], rfl, List.Pairwise.nil, fun y => ⟨fun h => (by cases h), fun h => absurd h (HXO.out y)⟩, Nat.zero_le _, Own.nil _ _ _, Fr.refl _ _⟩
        by_cases hn0 : n = 0
        · have hnI : decide ((0 : Int) < (n : Int)) = false := by rw [hn0]; rfl
          have hnI2 : decide (0 < n) = false := by rw [hn0]; rfl
          clear hx hn0
          go_wp2
          go_meet
          case rel => exact HEND.out
        · have hnI : (0 : Int) < (n : Int) := by omega
          by_cases hx0 : 0 ≤ x
          · have hxI : ¬ x < (n : Int) := fun h => hx ⟨hx0, h⟩
            clear hx
            go_wp2
            go_meet
            case rel => exact HEND.out
          · clear hx
            go_wp2
            go_meet
            case rel => exact HEND.out
  case rest =>
    obtain ⟨Bw, dw, Lw, rfl, hup, hmem, hlen, how, hfw⟩ := hcut
    generalize wc = w4 at *
    have HF4 : Hid (Fr No w2 w4) := Lib.hid (HF3.out.trans hfw)
    have HUP := Lib.hid hup
    have HME := Lib.hid hmem
    have HLE := Lib.hid hlen
    have HOW := Lib.hid how
    clear hup hmem hlen how hfw
    have HS1 : Hid (∀ (w5 : World) (L1 : List Int) (A1 : Option Addr) (c1 : Nat), Fr No w4 w5 → L1.Pairwise (· < ·) → (∀ y, y ∈ L1 ↔ reachX G x y) → Own w5 3 1 (.slice A1 L1.length c1) L1.length (is_ L1) → Calls Try.prog 13 #[.slice A1 L1.length c1, .slice Bw Lw.length dw] w5 fun e w' => e = .returned (.bool true) ∧ Fr No w5 w') := Lib.hid (fun w5 L1 A1 c1 h5 p1 m1 o1 =>
      same_told p1 HUP.out m1 HME.out o1.rd (HOW.out.rd.no_ h5) (by have := HLE.out; omega))
    have HS2 : Hid (∀ (w5 : World) (L1 L2 : List Int) (A1 A2 : Option Addr) (c1 c2 : Nat), L1.Pairwise (· < ·) → (∀ y, y ∈ L1 ↔ openX G kl y) → L2.Pairwise (· < ·) → (∀ y, y ∈ L2 ↔ openX G kl y) → Own w5 3 1 (.slice A1 L1.length c1) L1.length (is_ L1) → Own w5 3 1 (.slice A2 L2.length c2) L2.length (is_ L2) → Calls Try.prog 13 #[.slice A1 L1.length c1, .slice A2 L2.length c2] w5 fun e w' => e = .returned (.bool true) ∧ Fr No w5 w') := Lib.hid (fun w5 L1 L2 A1 A2 c1 c2 p1 m1 p2 m2 o1 o2 =>
      same_told p1 p2 m1 m2 o1.rd o2.rd (by
        have h1 := retx_len (n := n) p2 (fun y hy => by
          obtain ⟨a, ha, rfl, _⟩ := (openX_iff G kl y).1 ((m2 y).1 hy)
          rw [HGN.out] at ha
          omega)
        omega))
    go_wp2_with (first
      | (go_at_call 16; (with_reducible refine (HRE.out _ HF4.out).mono ?_); rintro _ w5 ⟨L1, u1, m1, v1, rfl, o1, f1, n1⟩; obtain ⟨A1, c1, rfl, _, _⟩ := o1.form; have f1' := fr_at_none f1; have HS1' := Lib.hid (HS1.out w5 L1 A1 c1 f1' u1 m1 o1); have HF5 := Lib.hid (HF4.out.trans f1'); clear u1 m1 o1 f1 n1 f1')
      | (go_at_call 13; (with_reducible refine HS1'.out.mono ?_); rintro _ w6 ⟨rfl, f6⟩; have HF6 := Lib.hid (HF5.out.trans f6); clear f6)
      | (go_at_call 17; (with_reducible refine (HOP.out _ HF6.out).mono ?_); rintro _ w7 ⟨L2, u2, m2, v2, rfl, o2, f2, n2⟩; obtain ⟨A2, c2, rfl, _, _⟩ := o2.form; have f2' := fr_at_none f2; have HO2 := Lib.hid o2; have HU2 := Lib.hid u2; have HM2 := Lib.hid m2; have HF7 := Lib.hid (HF6.out.trans f2'); clear u2 m2 o2 f2 n2 f2')
      | (go_at_call 18; (with_reducible refine (HRO.out _ HF7.out).mono ?_); rintro _ w8 ⟨L3, u3, m3, v3, rfl, o3, f3, n3⟩; obtain ⟨A3, c3, rfl, _, _⟩ := o3.form; have f3' := fr_at_none f3; have HS2' := Lib.hid (HS2.out w8 L2 L3 A2 A3 c2 c3 HU2.out HM2.out u3 m3 (HO2.out.fr f3' (fun _ _ h => h)) o3); have HF8 := Lib.hid (HF7.out.trans f3'); clear u3 m3 o3 f3 n3 f3')
      | (go_at_call 13; (with_reducible refine HS2'.out.mono ?_); rintro _ w9 ⟨rfl, f9⟩; have HF9 := Lib.hid (HF8.out.trans f9); clear f9))
    go_ret
    exact ⟨rfl, (HF2.out.trans HF9.out).belowNo⟩
end Go.Proofs.Ytcjofakhefpfdaa
