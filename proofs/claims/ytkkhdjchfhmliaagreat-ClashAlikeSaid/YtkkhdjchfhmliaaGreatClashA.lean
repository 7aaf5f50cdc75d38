/- clash.contains. -/
import Derived.Test.YtkkhdjchfhmliaaGreatMC
import Derived.Deep.RegionWith
namespace Go.Proofs.YtkkhdjchfhmliaaGreat
open Go.RowKit Go.My Go.Maps Go.WideMaps
set_option linter.unusedSimpArgs false
set_option linter.unusedVariables false
attribute [local go_sem ↓] Go.wp_at_zero Go.wp_at_succ

def CtRel (w : World) (b a : List Od) (iv : Value) (wr : World) : Prop := ∃ k : Nat, k ≤ a.length ∧ iv = .int .i64 k ∧ (a.take k).all (hasB b) = true ∧ Fr No w wr
set_option maxRecDepth 100000 in
set_option maxHeartbeats 2000000 in
theorem containsC_any (w : World) (F G : Nat → Prop) (A B : Option Addr) (c d : Nat) (a b : List Od) (ha : OdsS w w F A a) (hb : OdsS w w G B b) (hn : a.length ≤ 1000000) (hm : b.length ≤ 1000000) (hbd : b.length ≤ d) :
    Calls Tryz.prog 28 #[.slice B b.length d, .slice A a.length c] w fun e w' => e = .returned (.bool (containsB b a)) ∧ Fr No w w' := by
  have HP := Lib.hid (positions_any w w G B d b hb hm)
  have HA := Lib.hid ha
  have HB := Lib.hid hb
  clear ha hb
  go_enter Tryz.func28, Tryz.ntmps28
  go_wp2_with fail
  (with_reducible refine HP.out.mono ?_)
  rintro e w1 ⟨m, rfl, hm1, hf1, -⟩
  have HM := Lib.hid hm1
  have HF1 := Lib.hid hf1
  clear hm1 hf1 HP
  go_wp2
  go_loopw [14] (fun iv wr => CtRel w1 b a iv wr) (fun iv _ => a.length - (intOf iv).toNat)
  case atStart => exact ⟨0, Nat.zero_le _, rfl, rfl, Fr.refl _ _⟩
  case round =>
    obtain ⟨k, hk, rfl, hall, hfr⟩ := hrel
    have hk62 : (k : Int) ≤ 1000000 := by omega
    by_cases hlt : k < a.length
    · have hfw : Fr No w wr := HF1.out.trans hfr
      obtain ⟨ad, v, rfl, _, hok, hg, hL, q0, q1, q2, q3, q4, q5, q6, q7, q8, q9⟩ := (HA.out.fr hfw (fun _ _ _ h => h)).at_ k hlt
      obtain ⟨vB, vd, rfl, hd1, hd2⟩ := hL.form
      have HT : Hid (hasB b a[k] = true → (a.take (k + 1)).all (hasB b) = true) := fun h => by
        rw [List.take_succ_eq_append_getElem hlt, List.all_append, hall, List.all_cons, List.all_nil, h]
        rfl
      have HN : Hid (hasB b a[k] = false → containsB b a = false) := fun h => by
        unfold containsB
        rw [List.all_eq_false]
        exact ⟨_, List.getElem_mem hlt, by rw [h]; decide⟩
      have HLT : Hid (k + 1 ≤ a.length) := hlt
      have HFR := Lib.hid hfr
      have hid : IdOk a[k].id := ⟨hok.1, hok.2.1⟩
      have HB0 : Hid (hasB b a[k] = match posF (idsO b) a[k].id with | some i => (b[i]?).any fun x => eqO x a[k] | none => false) := rfl
      have HLK : Hid (∀ W, Fr No w1 W → (Instr.lookup 82 (.map (some m)) (.agg #[.int .i64 a[k].cl, .int .i64 a[k].sq]) true).run Tryz.prog W = .ok (.tuple #[.int .i64 (posO (posF (idsO b) a[k].id)), .bool (posF (idsO b) a[k].id).isSome]) W) := fun W hW => (HM.out.fr hW (fun h => h)).look a[k].id hid
      cases hp : posF (idsO b) a[k].id with
      | none =>
        rw [hp] at HB0 HLK
        have HN2 := Lib.hid (HN.out HB0.out)
        have hlk := HLK.out _ (HFR.out.alloc (.cells #[.int .i64 a[k].cl, .int .i64 a[k].sq, .int .i64 a[k].kd, .string a[k].acct, .string a[k].peer, .int .i64 a[k].sum, .slice vB a[k].legs.length vd, .int .i64 a[k].per, .int .i64 a[k].hold, .string a[k].note] 39))
        simp only [posO, Option.isSome_none] at hlk
        clear hp HB0 HLK HN HT hok hg hL hall hid hfr
        generalize a[k].legs.length = vn at *
        generalize a[k].cl = cl at *
        generalize a[k].sq = sq at *
        generalize a[k].kd = kd at *
        generalize a[k].acct = acct at *
        generalize a[k].peer = peer at *
        generalize a[k].sum = sum at *
        generalize a[k].per = per at *
        generalize a[k].hold = hold at *
        generalize a[k].note = note at *
        go_upto_region 6 with (fail)
        go_quiet (fail)
        go_wp2
        go_ret
        exact ⟨by rw [HN2.out]; rfl, (hfw.alloc _).drewN _⟩
      | some i =>
        obtain ⟨hi0, hi1⟩ := posF_some hp
        have hi : i < b.length := by rw [idsO_length] at hi0; exact hi0
        rw [hp] at HB0 HLK
        simp only [List.getElem?_eq_getElem hi, Option.any_some] at HB0
        have hlk := HLK.out _ (HFR.out.alloc (.cells #[.int .i64 a[k].cl, .int .i64 a[k].sq, .int .i64 a[k].kd, .string a[k].acct, .string a[k].peer, .int .i64 a[k].sum, .slice vB a[k].legs.length vd, .int .i64 a[k].per, .int .i64 a[k].hold, .string a[k].note] 39))
        simp only [posO, Option.isSome_some] at hlk
        obtain ⟨bd, u, rfl, _, hokb, hgb, hLb, r0, r1, r2, r3, r4, r5, r6, r7, r8, r9⟩ := (HB.out.fr hfw (fun _ _ _ h => h)).at_ i hi
        obtain ⟨uB, ud, rfl, hd3, hd4⟩ := hLb.form
        have HS : Hid (∀ W, Fr No w W → Calls Tryz.prog 40 #[b[i].val (.slice uB b[i].legs.length ud), a[k].val (.slice vB a[k].legs.length vd)] W fun e w' => e = .returned (.bool (eqO b[i] a[k])) ∧ Fr No W w') := fun W hW => osame_any _ _ b[i] a[k] _ _ W (hLb.no hW) (hL.no hW)
        unfold Od.val Od.cs at HS
        simp only [List.toArray] at HS
        have hAL := fun j => ((Blk.new wr 39 #[.int .i64 a[k].cl, .int .i64 a[k].sq, .int .i64 a[k].kd, .string a[k].acct, .string a[k].peer, .int .i64 a[k].sum, .slice vB a[k].legs.length vd, .int .i64 a[k].per, .int .i64 a[k].hold, .string a[k].note]).cell j)
        have hib : (i : Int) < b.length := by omega
        have hi0' : (0 : Int) ≤ (i : Int) := by omega
        clear hp HLK hok hg hL hall hid hfr hokb hgb hLb hi0 hi1 hd1 hd2 hd3 hd4
        generalize eqO b[i] a[k] = res at *
        generalize b[i].legs.length = un at *
        generalize b[i].cl = bcl at *
        generalize b[i].sq = bsq at *
        generalize b[i].kd = bkd at *
        generalize b[i].acct = bacct at *
        generalize b[i].peer = bpeer at *
        generalize b[i].sum = bsum at *
        generalize b[i].per = bper at *
        generalize b[i].hold = bhold at *
        generalize b[i].note = bnote at *
        generalize a[k].legs.length = vn at *
        generalize a[k].cl = cl at *
        generalize a[k].sq = sq at *
        generalize a[k].kd = kd at *
        generalize a[k].acct = acct at *
        generalize a[k].peer = peer at *
        generalize a[k].sum = sum at *
        generalize a[k].per = per at *
        generalize a[k].hold = hold at *
        generalize a[k].note = note at *
        go_upto_region 6 with (fail)
        have HFW : Hid (Fr No w1 (wr.alloc (.cells #[.int .i64 cl, .int .i64 sq, .int .i64 kd, .string acct, .string peer, .int .i64 sum, .slice vB vn vd, .int .i64 per, .int .i64 hold, .string note] 39))) := HFR.out.alloc _
        have HFA : Hid (Fr No w (wr.alloc (.cells #[.int .i64 cl, .int .i64 sq, .int .i64 kd, .string acct, .string peer, .int .i64 sum, .slice vB vn vd, .int .i64 per, .int .i64 hold, .string note] 39))) := hfw.alloc _
        have x0 := hAL 0
        have x1 := hAL 1
        have x2 := hAL 2
        have x3 := hAL 3
        have x4 := hAL 4
        have x5 := hAL 5
        have x6 := hAL 6
        have x7 := hAL 7
        have x8 := hAL 8
        have x9 := hAL 9
        simp only [List.getElem?_toArray, List.getElem?_cons_zero, List.getElem?_cons_succ] at x0 x1 x2 x3 x4 x5 x6 x7 x8 x9
        have HR : Hid (∀ p v, wr.cell? p = some v → (wr.alloc (.cells #[.int .i64 cl, .int .i64 sq, .int .i64 kd, .string acct, .string peer, .int .i64 sum, .slice vB vn vd, .int .i64 per, .int .i64 hold, .string note] 39)).cell? p = some v) := fun p v h => (Fr.refl No wr).alloc _ |>.cell_some h (fun h => h)
        have s0 := HR.out _ _ r0
        have s1 := HR.out _ _ r1
        have s2 := HR.out _ _ r2
        have s3 := HR.out _ _ r3
        have s4 := HR.out _ _ r4
        have s5 := HR.out _ _ r5
        have s6 := HR.out _ _ r6
        have s7 := HR.out _ _ r7
        have s8 := HR.out _ _ r8
        have s9 := HR.out _ _ r9
        clear r0 r1 r2 r3 r4 r5 r6 r7 r8 r9 q0 q1 q2 q3 q4 q5 q6 q7 q8 q9 hAL hlk
        generalize (wr.alloc (.cells #[.int .i64 cl, .int .i64 sq, .int .i64 kd, .string acct, .string peer, .int .i64 sum, .slice vB vn vd, .int .i64 per, .int .i64 hold, .string note] 39)) = wa at *
        cases hq : res
        · subst hq
          have HN2 := Lib.hid (HN.out HB0.out)
          clear HN HT HB0
          go_region_with (go_at_call 40; (with_reducible refine (HS.out _ HFA.out.drew).mono ?_); rintro e w4 ⟨rfl, hf4⟩)
          all_goals
            go_wp2
            go_ret
            exact ⟨by rw [HN2.out]; rfl, HFA.out.drew.trans hf4⟩
        · subst hq
          have HT2 := Lib.hid (HT.out HB0.out)
          clear HN HT HB0
          have HFB : Hid (Fr No w1 wa.drew) := HFW.out.drew
          go_region_with (go_at_call 40; (with_reducible refine (HS.out _ HFA.out.drew).mono ?_); rintro e w4 ⟨rfl, hf4⟩)
          all_goals
            have HF4 : Hid (Fr No w1 w4) := HFB.out.trans hf4
            clear s0 s1 s2 s3 s4 s5 s6 s7 s8 s9 x0 x1 x2 x3 x4 x5 x6 x7 x8 x9
            go_wp2
            go_roundw
            case rel => exact ⟨k + 1, HLT.out, by go_num, HT2.out, HF4.out⟩
            case measure => have := HLT.out; simp [intOf]; omega
    · obtain rfl : k = a.length := by omega
      rw [List.take_length] at hall
      have HE : Hid (containsB b a = true) := hall
      go_wp2
      go_ret
      exact ⟨by rw [HE.out]; rfl, HF1.out.trans hfr⟩
end Go.Proofs.YtkkhdjchfhmliaaGreat
