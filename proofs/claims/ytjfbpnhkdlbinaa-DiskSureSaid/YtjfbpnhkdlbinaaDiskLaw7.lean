/- The laws of package disk, as walks: DiskSure. -/
import Derived.Test.YtjfbpnhkdlbinaaDiskLaw6
namespace Go.Proofs.Ytjfbpnhkdlbinaa
open Go.RowKit Go.My
set_option linter.unusedSimpArgs false
set_option linter.unusedVariables false

theorem upD_sure (s : DSt) (n : Int) (l : List (Int × UInt8)) (h : s.sure ≤ s.b.length) : s.sure ≤ (upD s n l).sure ∧ (upD s n l).b.take s.sure = s.b.take s.sure := by
  have hk := keptOf_le n (s.b.length - s.sure)
  unfold upD
  refine ⟨by simp only; omega, ?_⟩
  simp only
  rw [List.take_take, Nat.min_eq_left (by omega), spoilF_take]

/-- what is sure stays -/
theorem doesD_sure (cap : Nat) (s : DSt) (o : OpD) (h : s.sure ≤ s.b.length) (hk : kindD o.kind ≠ 2) : s.sure ≤ (doesD cap s o).sure ∧ (doesD cap s o).b.take s.sure = s.b.take s.sure := by
  unfold doesD
  by_cases h0 : kindD o.kind = 0
  · simp only [if_pos h0]
    unfold appD
    refine ⟨Nat.le_refl _, ?_⟩
    simp only
    split
    · rw [List.take_append_of_le_length h]
    · rfl
  by_cases h1 : kindD o.kind = 1
  · simp only [if_neg h0, if_pos h1]
    unfold syncD
    refine ⟨?_, rfl⟩
    simp only
    split <;> omega
  by_cases h3 : kindD o.kind = 3
  · simp only [if_neg h0, if_neg h1, if_neg hk, if_pos h3]
    exact ⟨Nat.le_refl _, trivial⟩
  · simp only [if_neg h0, if_neg h1, if_neg hk, if_neg h3]
    exact upD_sure _ _ _ h

set_option maxRecDepth 100000 in
set_option maxHeartbeats 2000000 in
theorem diskSure_walk (A : Option Addr) (c : Nat) (cells : List Value) (l : List OpD) (keep : Int) (w : World) 
    (rd : Rd w (Lt w.heap.size) 5 A l.length cells) (lc : l.length ≤ c) (cm : c ≤ maxLen) (hE : Each (RdOp w w.heap.size) 5 cells l) (hkeep : -9223372036854775808 ≤ keep ∧ keep ≤ 9223372036854775807) :
    Calls Try.prog 12 #[.slice A l.length c, .int .i64 keep] w (RetTrue w) := by
  have HRD := Lib.hid rd
  have HEA := Lib.hid hE
  have HCM := Lib.hid cm
  obtain ⟨hr1, hr2⟩ := hkeep
  clear rd hE cm
  go_enter Try.func12, Try.ntmps12
  go_wp2_with fail
  refine (livesD _).mono ?_
  rintro e w1 ⟨rfl, hb1⟩
  have hs1 := hb1.size
  go_wp2_with fail
  refine (new_disk 3000 _ (by omega) (by omega)).mono ?_
  rintro e w2 ⟨p, rfl, hd2, hf2, hp⟩
  have hb2 : Below w.heap.size w w2 := below_fr_no hb1 hf2 hs1
  have hs2 := hb2.size
  have hd2' : DkS w2 p none 3000 ⟨[], 0, false⟩ := hd2
  clear hd2 hf2
  go_wp2_with fail
  refine (early_any w.heap.size (Lt w.heap.size) A c cells l w2 hs2 (HRD.out.below hb2 fun _ h => h) (Each.mono HEA.out fun _ _ h => h.below hb2) lc HCM.out).mono ?_
  rintro e w3 ⟨v3, cs3, rfl, ho3, he3, hf3, hn3⟩
  have hb3 : Below w.heap.size w w3 := below_fr_no hb2 hf3 hs2
  have hs3 := hb3.size
  have hd3 : DkS w3 p none 3000 ⟨[], 0, false⟩ := Dk.fr hd2' hf3 (fun h => h) (fun _ _ h => h)
  have hn3' := newer_none hn3
  obtain ⟨A3, c3, rfl, hc3, hc3'⟩ := ho3.form
  go_wp2_with fail
  have HRS := Lib.hid ho3.rd
  have HES := Lib.hid he3
  have hpw := hd2'.lt
  have hown : Hid (∀ k, (Value.slice A3 ((l.take 100).map truncD).length c3).ownBlock = some k → k ≠ p) := fun k hk => by have := hn3' k hk; omega
  have hfb2 : Hid (∀ W, Fr (At1 p) w3 W → Below w.heap.size w3 W) := fun W hW => hW.below_at hs3 fun k hk h => by simp only [At1] at h; omega
  have hfb : Hid (∀ W, Fr (At1 p) w3 W → Below w.heap.size w W) := fun W hW => hb3.trans (hfb2.out W hW)
  have hstart : ScrRel w3 p 3000 (fun _ _ => True) ((l.take 100).map truncD).length (.int .i64 0) w3 := ⟨0, _, none, Nat.zero_le _, rfl, hd3, Fr.refl _ _, .inl rfl, trivial⟩
  have htl : ((l.take 100).map truncD).length ≤ 100 := by simp; omega
  have hlm : min 100 l.length = ((l.take 100).map truncD).length := by simp
  rw [hlm]
  clear ho3 he3 hd3 hn3 hd2' hf3 hlm hc3'
  generalize (l.take 100).map truncD = T at *
  go_loopw [6] (fun a wr => ScrRel w3 p 3000 (fun _ _ => True) T.length a wr) (fun a _ => T.length - (intOf a).toNat)
  case atStart => exact hstart
  case round =>
    clear hstart
    obtain ⟨k, s, g, hk, rfl, hdk, hfr, hng, _⟩ := hrel
    by_cases hlt : k < T.length
    · obtain ⟨ad, A1, c1, A2, c2, A4, c4, rfl, ⟨hl1, hm1⟩, hQ⟩ := script_in HRS.out HES.out hown.out hfb2.out rfl k hlt
      have hbd := kindD_bd T[k].kind
      have HQ := Lib.hid hQ
      have hm1' : c1 ≤ 9223372036854775807 := by simp only [maxLen] at hm1; omega
      clear hQ hm1
      generalize T[k] = o at *
      obtain ⟨q0, q1, q2, q3, q4, hop⟩ := HQ.out wr hfr
      go_wp2_with fail
      refine (kind_is _ o w.heap.size wr hop _ rfl).mono ?_
      rintro e wk ⟨rfl, hbk⟩
      have hdk2 : DkS wk p g 3000 s := Dk.fr hdk (Fr.of_below hbk No) (fun h => h) (fun _ _ h => h)
      have hfrk : Fr (At1 p) w3 wk := hfr.trans (Fr.of_below hbk _)
      clear hdk hfr q0 q1 q2 q3 q4 hop hbk
      by_cases hk2 : kindD o.kind = 2
      · rw [hk2]
        have hend : Hid (ScrRel w3 p 3000 (fun _ _ => True) T.length (.int .i64 ((k : Int) + 1)) wk) := ⟨k + 1, s, g, by omega, by go_num, hdk2, hfrk, hng, trivial⟩
        go_wp2
        go_roundw
        case rel => exact hend.out
        case measure => simp [intOf]; omega
      · have hsle : s.sure ≤ s.b.length := by obtain ⟨_, _, _, _, _, _, h⟩ := hdk2; exact h
        have hble : s.b.length ≤ 3000 := by obtain ⟨_, _, _, _, _, h, _⟩ := hdk2; exact h
        obtain ⟨hsu, hpre⟩ := doesD_sure 3000 s o hsle hk2
        have HK := Lib.hid hk2
        have hkb : (kindD o.kind == 2) = false := by rw [beq_eq_false_iff_ne]; exact hk2
        clear hk2
        generalize kindD o.kind = kd at *
        go_wp2_with fail
        refine (bytes_at p g 3000 s.sure s.b s.br wk hdk2).mono ?_
        rintro e w4 ⟨v4, rfl, ho4, hf4, hn4⟩
        have hd4 : DkS w4 p g 3000 s := Dk.fr hdk2 (fr_at_none hf4) (fun h => h) (fun _ _ h => h)
        have hfr4 : Fr (At1 p) w3 w4 := hfrk.trans ((fr_at_none hf4).mono fun _ _ h => False.elim h)
        have hn4' := newer_none hn4
        obtain ⟨A5, c5, rfl, hc5, hc5'⟩ := ho4.form
        have hc5'' : c5 ≤ 9223372036854775807 := by simp only [maxLen] at hc5'; omega
        have HSU := Lib.hid (sure_at p g 3000 s.sure s.b s.br w4 hd4)
        have hpk := Dk.lt hdk2
        have hgk := Dk.ltg hdk2
        obtain ⟨q0, q1, q2, q3, q4, hop⟩ := HQ.out w4 hfr4
        go_wp2_with (go_at_call 46; refine HSU.out.mono ?_; rintro e w9 ⟨rfl, rfl⟩)
        refine (does_at p g 3000 s _ o w.heap.size w4 hd4 hop (by omega) (fun k hk => by have := newer_none hng k hk; omega)).mono ?_
        rintro e w5 ⟨rfl, g5, hd5, hf5, hg5⟩
        have hfr5 := fr_p hfr4 hng hf5
        have hng5 : Newer w3.heap.size none g5 := hng.trans hg5 hfr4.size
        have ho5 := ho4.fr hf5 (fun j hj h => by
          have := hn4' j hj
          rcases h with h | h
          · omega
          · have := hgk j h; omega)
        clear hd4 hfr4 q0 q1 q2 q3 q4 hop hf5 hg5 HSU ho4 hf4 hn4 hn4' hdk2 hfrk
        go_wp2_with fail
        refine (bytes_at p g5 3000 (doesD 3000 s o).sure (doesD 3000 s o).b (doesD 3000 s o).br w5 hd5).mono ?_
        rintro e w6 ⟨v6, rfl, ho6, hf6, hn6⟩
        have hd6 : DkS w6 p g5 3000 (doesD 3000 s o) := Dk.fr hd5 (fr_at_none hf6) (fun h => h) (fun _ _ h => h)
        have hfr6 : Fr (At1 p) w3 w6 := hfr5.trans ((fr_at_none hf6).mono fun _ _ h => False.elim h)
        have hb6 := ho5.fr (fr_at_none hf6) (fun _ _ h => h)
        obtain ⟨A6, c6, rfl, hc6, hc6'⟩ := ho6.form
        have hc6'' : c6 ≤ 9223372036854775807 := by simp only [maxLen] at hc6'; omega
        have hsl6 : (doesD 3000 s o).sure ≤ (doesD 3000 s o).b.length := by obtain ⟨_, _, _, _, _, _, h⟩ := hd6; exact h
        have HSU : Hid (∀ n, Calls Try.prog 46 #[.pointer (some ⟨p, 0, none⟩)] (w6.drewN n) fun e w' => e = .returned (.int .i64 ((doesD 3000 s o).sure : Int)) ∧ w' = w6.drewN n) := fun n =>
          (sure_at p g5 3000 (doesD 3000 s o).sure (doesD 3000 s o).b (doesD 3000 s o).br (w6.drewN n) (show DkS (w6.drewN n) p g5 3000 (doesD 3000 s o) from Dk.fr hd6 (S := No) ((Fr.refl _ _).drewN n) (fun h => h) (fun _ _ h => h))).mono fun _ _ h => ⟨h.1, h.2.symm⟩
        have r1 : Rd w6 (Lt w6.heap.size) 1 A6 s.sure (bs ((doesD 3000 s o).b.take s.sure)) := by
          have := (rd_lt ho6.rd (by omega)).take (k := s.sure) (by omega)
          rwa [Nat.mul_one, ← bs_take] at this
        have r2 : Rd w6 (Lt w6.heap.size) 1 A5 s.sure (bs (s.b.take s.sure)) := by
          have := (rd_lt hb6.rd (by omega)).take (k := s.sure) (by omega)
          rwa [Nat.mul_one, ← bs_take] at this
        rw [hpre] at r1
        have hstr1 := fun n => run_str_of_bytes (P := Try.prog) (w := w6.drewN n) (c := c6) 25 9 5 Try.underlying25 Try.underlying5 Try.underlying9 (Rd.drewN r1 n)
        have hstr2 := fun n => run_str_of_bytes (P := Try.prog) (w := w6.drewN n) (c := c5) 25 9 5 Try.underlying25 Try.underlying5 Try.underlying9 (Rd.drewN r2 n)
        have hend : Hid (∀ n, ScrRel w3 p 3000 (fun _ _ => True) T.length (.int .i64 ((k : Int) + 1)) (w6.drewN n)) := fun n => ⟨k + 1, doesD 3000 s o, g5, by omega, by go_num, Dk.fr hd6 (S := No) ((Fr.refl _ _).drewN n) (fun h => h) (fun _ _ h => h), hfr6.drewN n, hng5, trivial⟩
        clear hd5 hfr5 hd6 ho6 hf6 hn6 HQ hfr6 r1 r2 hpre ho5 hb6 HK
        generalize doesD 3000 s o = s' at *
        generalize s.b.take s.sure = str at *
        go_wp2_with fail
        have hd1 : decide (s'.b.length < s.sure) = false := by rw [decide_eq_false_iff_not]; omega
        have hd2 : (str != str) = false := by simp
        have hd3 : decide (s'.sure < s.sure) = false := by rw [decide_eq_false_iff_not]; omega
        go_quiet (first | (go_at_call 46; exact Calls.quiet_of_same (HSU.out _)))
        go_wp2
        go_roundw
        case rel => exact hend.out nq
        case measure => simp [intOf]; omega
    · have hsle : s.sure ≤ s.b.length := by obtain ⟨_, _, _, _, _, _, h⟩ := hdk; exact h
      have hble : s.b.length ≤ 3000 := by obtain ⟨_, _, _, _, _, h, _⟩ := hdk; exact h
      have hpk := Dk.lt hdk
      have hgk := Dk.ltg hdk
      go_wp2_with fail
      refine (bytes_at p g 3000 s.sure s.b s.br wr hdk).mono ?_
      rintro e w4 ⟨v4, rfl, ho4, hf4, hn4⟩
      have hd4 : DkS w4 p g 3000 s := Dk.fr hdk (fr_at_none hf4) (fun h => h) (fun _ _ h => h)
      have hfr4 : Fr (At1 p) w3 w4 := hfr.trans ((fr_at_none hf4).mono fun _ _ h => False.elim h)
      have hn4' := newer_none hn4
      obtain ⟨A5, c5, rfl, hc5, hc5'⟩ := ho4.form
      have hc5'' : c5 ≤ 9223372036854775807 := by simp only [maxLen] at hc5'; omega
      have HSU := Lib.hid (sure_at p g 3000 s.sure s.b s.br w4 hd4)
      have HBR := Lib.hid (break_at p g 3000 s.sure s.b s.br w4 hd4)
      clear hf4 hn4 hdk hfr
      go_wp2_with (go_at_call 46; refine HSU.out.mono ?_; rintro e w9 ⟨rfl, rfl⟩)
      refine HBR.out.mono ?_
      rintro e w5 ⟨rfl, g5, hd5, hf5, hg5⟩
      have hfr5 := fr_p hfr4 hng hf5
      have hng5 : Newer w3.heap.size none g5 := hng.trans hg5 hfr4.size
      have hne4 : ∀ j, (Value.slice A5 s.b.length c5).ownBlock = some j → j ≠ p ∧ g ≠ some j := fun j hj => by
        have := hn4' j hj
        exact ⟨by omega, fun h => by have := hgk j h; omega⟩
      have ho5 := ho4.fr hf5 (fun j hj h => by
        rcases h with h | h
        · exact (hne4 j hj).1 h
        · exact (hne4 j hj).2 h)
      have hl4 := ho4.lt
      have hs5 := hf5.size
      clear hd4 hfr4 hf5 HSU HBR ho4 hn4'
      go_wp2_with fail
      refine (up_at p g5 3000 s.sure s.b true keep No none 0 [] _ hd5 Rd.none_ (fun k h => False.elim h) (by simp) (fun s hs => by simp at hs)).mono ?_
      have hsp : spoilF s.sure (keptOf keep (s.b.length - s.sure)) [] s.b = s.b := rfl
      rw [hsp]
      have hkl := keptOf_le keep (s.b.length - s.sure)
      have hkd : (keptOf keep (s.b.length - s.sure) : Int) = if keep < 0 then 0 else if (s.b.length : Int) - s.sure < keep then (s.b.length : Int) - s.sure else keep := by
        unfold keptOf
        split
        · omega
        · split <;> omega
      generalize keptOf keep (s.b.length - s.sure) = kept at *
      obtain ⟨N, hN⟩ : ∃ N, s.sure + kept = N := ⟨_, rfl⟩
      rw [hN]
      intro e w6 hr6
      obtain ⟨rfl, g6, hd6, hf6, hg6⟩ := hr6
      have hfr6 := fr_p hfr5 hng5 hf6
      have ho6 := ho5.fr hf6 (fun j hj h => by
        have h1 := hl4 j hj
        rcases h with h | h
        · exact (hne4 j hj).1 h
        · rcases hg5 with rfl | ⟨j', rfl, hj'⟩
          · exact (hne4 j hj).2 h
          · injection h with h; omega)
      have hNl : N ≤ s.b.length := by omega
      have hlen : (s.b.take N).length = N := by simp; omega
      clear hd5 hfr5 hf6 ho5 hsp hg5 hne4 hl4 hng5 hg6
      go_wp2_with fail
      refine (bytes_at p g6 3000 N (s.b.take N) false w6 hd6).mono ?_
      rintro e w7 ⟨v7, rfl, ho7, hf7, hn7⟩
      rw [hlen] at ho7
      have hd7 : DkS w7 p g6 3000 ⟨s.b.take N, N, false⟩ := Dk.fr hd6 (fr_at_none hf7) (fun h => h) (fun _ _ h => h)
      have hfr7 : Fr (At1 p) w3 w7 := hfr6.trans ((fr_at_none hf7).mono fun _ _ h => False.elim h)
      have hb7 := ho6.fr (fr_at_none hf7) (fun _ _ h => h)
      obtain ⟨A6, c6, rfl, hc6, hc6'⟩ := ho7.form
      have hc6'' : c6 ≤ 9223372036854775807 := by simp only [maxLen] at hc6'; omega
      have r1 : Rd w7 (Lt w7.heap.size) 1 A6 N (bs (s.b.take N)) := rd_lt ho7.rd (by omega)
      have r2 : Rd w7 (Lt w7.heap.size) 1 A5 N (bs (s.b.take N)) := by
        have := (rd_lt hb7.rd (by omega)).take (k := N) (by omega)
        rwa [Nat.mul_one, ← bs_take] at this
      have hstr1 := fun n => run_str_of_bytes (P := Try.prog) (w := w7.drewN n) (c := c6) 25 9 5 Try.underlying25 Try.underlying5 Try.underlying9 (Rd.drewN r1 n)
      have hstr2 := fun n => run_str_of_bytes (P := Try.prog) (w := w7.drewN n) (c := c5) 25 9 5 Try.underlying25 Try.underlying5 Try.underlying9 (Rd.drewN r2 n)
      have HSU : Hid (∀ n, Calls Try.prog 46 #[.pointer (some ⟨p, 0, none⟩)] (w7.drewN n) fun e w' => e = .returned (.int .i64 (N : Int)) ∧ w' = w7.drewN n) := fun n =>
        (sure_at p g6 3000 N (s.b.take N) false (w7.drewN n) (show DkS (w7.drewN n) p g6 3000 ⟨s.b.take N, N, false⟩ from Dk.fr hd7 (S := No) ((Fr.refl _ _).drewN n) (fun h => h) (fun _ _ h => h))).mono fun _ _ h => ⟨h.1, h.2.symm⟩
      have HB := Lib.hid (hfb.out w7 hfr7)
      have hd2 : (s.b.take N == s.b.take N) = true := by simp
      clear hd6 hfr6 ho6 ho7 hf7 hn7 hd7 hfr7 hb7 r1 r2
      generalize s.b.take N = str at *
      go_wp2_with fail
      by_cases hk0 : keep < 0
      · rw [if_pos hk0] at hkd
        have hNe : N = s.sure := by omega
        have h2 : ¬ (s.b.length : Int) - s.sure < 0 := by omega
        subst hNe
        go_quiet (first | (go_at_call 46; exact Calls.quiet_of_same (HSU.out _)))
        go_wp2
        go_ret
        exact ⟨rfl, below_drewN HB.out _⟩
      · rw [if_neg hk0] at hkd
        by_cases hk1 : (s.b.length : Int) - s.sure < keep
        · rw [if_pos hk1] at hkd
          have hNe : N = s.b.length := by omega
          have hq : ((s.b.length : Int) == (s.sure : Int) + ((s.b.length : Int) - s.sure)) = true := by rw [beq_iff_eq]; omega
          subst hNe
          go_quiet (first | (go_at_call 46; exact Calls.quiet_of_same (HSU.out _)))
          go_wp2
          go_ret
          exact ⟨rfl, below_drewN HB.out _⟩
        · rw [if_neg hk1] at hkd
          have hNe : (N : Int) = s.sure + keep := by omega
          have hq : ((N : Int) == (s.sure : Int) + keep) = true := by rw [beq_iff_eq]; omega
          clear hNe hkd hN
          go_quiet (first | (go_at_call 46; exact Calls.quiet_of_same (HSU.out _)))
          go_wp2
          go_ret
          exact ⟨rfl, below_drewN HB.out _⟩
end Go.Proofs.Ytjfbpnhkdlbinaa
