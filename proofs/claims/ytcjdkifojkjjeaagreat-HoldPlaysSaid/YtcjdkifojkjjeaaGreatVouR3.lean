/- The document's own voucher: Make. -/
import Derived.Test.YtcjdkifojkjjeaaGreatVouR2
import Derived.StillTailTactics
namespace Go.My
open Go
/-- a region that reads, and stores at its end: the world behind the draw under a name -/
theorem wp_region_tail {P : Program} {id : Nat} {Q : Exit → Act → World → Prop} {a : Act} {w : World} {l : List Oper} (n : Nat) (hm : P.follows .mixedOrders = true) (hB : Region.lexTailB .any l.toArray n = true)
    (h : ∀ w', w' = w.drew → wpStill P l.toArray w' (fun a' => wpList P l.toArray Q (l.drop n) a' w') (l.take n) a) : (Code.region id l.toArray true).wp P Q a w :=
  wp_region_still_tail n hm hB (h _ rfl)
end Go.My
namespace Go.Proofs.YtcjdkifojkjjeaaGreat
open Go.RowKit Go.My Go.Maps
set_option linter.unusedSimpArgs false
set_option linter.unusedVariables false
attribute [local go_sem ↓] Go.wp_at_zero Go.wp_at_succ

theorem legs_append : ∀ (A B : List Lg) (S : List Ac), legsE S A = 0 → legsE S (A ++ B) = legsE (legsS S A) B ∧ legsS S (A ++ B) = legsS (legsS S A) B
  | [], B, S, _ => ⟨rfl, rfl⟩
  | g :: r, B, S, h => by
    rw [legsE_cons] at h
    by_cases h0 : legE S g = 0
    · rw [if_pos h0] at h
      have ih := legs_append r B (legS S g) h
      rw [List.cons_append, legsE_cons, legsS_cons, legsS_cons, if_pos h0, if_pos h0, if_pos h0]
      exact ih
    · rw [if_neg h0] at h
      exact absurd h h0
theorem legs_app_ne : ∀ (A B : List Lg) (S : List Ac), legsE S A ≠ 0 → legsE S (A ++ B) ≠ 0
  | [], B, S, h => absurd rfl h
  | g :: r, B, S, h => by
    rw [legsE_cons] at h
    rw [List.cons_append, legsE_cons]
    by_cases h0 : legE S g = 0
    · rw [if_pos h0] at h ⊢
      exact legs_app_ne r B _ h
    · rw [if_neg h0]
      exact h0
/-- the next leg of legs that may be posted -/
theorem legs_next {S : List Ac} {L : List Lg} (h : legsE S L = 0) (i : Nat) (hi : i < L.length) : legE (legsS S (L.take i)) L[i] = 0 ∧ legsS S (L.take (i + 1)) = legS (legsS S (L.take i)) L[i] := by
  have h1 : legsE S (L.take i) = 0 := by
    rcases Decidable.em (legsE S (L.take i) = 0) with h0 | h0
    · exact h0
    · exfalso
      have := legs_app_ne (L.take i) (L.drop i) S h0
      rw [List.take_append_drop] at this
      exact this h
  have hsp : L = L.take i ++ (L[i] :: L.drop (i + 1)) := by simp
  have h2 : legsE (legsS S (L.take i)) (L[i] :: L.drop (i + 1)) = 0 := by
    have := (legs_append (L.take i) (L[i] :: L.drop (i + 1)) S h1).1
    rw [← hsp] at this
    rw [← this]
    exact h
  have h3 : legE (legsS S (L.take i)) L[i] = 0 := by
    rw [legsE_cons] at h2
    rcases Decidable.em (legE (legsS S (L.take i)) L[i] = 0) with h0 | h0
    · exact h0
    · rw [if_neg h0] at h2
      exact absurd h2 h0
  refine ⟨h3, ?_⟩
  rw [List.take_succ_eq_append_getElem hi, (legs_append (L.take i) [L[i]] S h1).2, legsS_cons, if_pos h3]
  rfl
theorem rise_inj {S : List Ac} (h : Rise S) {i k : Nat} (hi : i < S.length) (hk : k < S.length) (e : S[i].name = S[k].name) : i = k := by
  rcases Nat.lt_trichotomy i k with h1 | h1 | h1
  · have := List.pairwise_iff_getElem.1 h i k hi hk h1
    unfold Ac.key at this
    rw [e, WideShapes.before_irrefl] at this
    cases this
  · exact h1
  · have := List.pairwise_iff_getElem.1 h k i hk hi h1
    unfold Ac.key at this
    rw [e, WideShapes.before_irrefl] at this
    cases this
theorem refat_at (q : Nat) (S : List Ac) (s : ByteArray) (k : Nat) (hk : k < S.length) (w : World) (h : RfS w q S) (hI : Inv S) (hn : S[k].name = s.data.toList) :
    Calls Tryz.prog 40 #[.pointer (some ⟨q, 0, none⟩), .string s] w fun e w' => e = .returned (.int .i64 k) ∧ w = w' := by
  refine (refat_any q S s w h hI.len).mono ?_
  rintro e w' ⟨z, rfl, hz, rfl⟩
  rcases hz with ⟨hg, _⟩ | ⟨j, hj, rfl, hnm, _⟩
  · exact absurd hn (getA_none hg _ (List.getElem_mem hk))
  · have := rise_inj hI.rise hj hk (by rw [hnm, hn])
    subst this
    exact ⟨rfl, rfl⟩
def MkRel (w : World) (q : Nat) (S : List Ac) (L : List Lg) (iv : Value) (wr : World) : Prop := ∃ i : Nat, i ≤ L.length ∧ iv = .int .i64 i ∧ RfS wr q (legsS S (L.take i)) ∧ Fr (At1 q) w wr

set_option maxRecDepth 100000 in
set_option maxHeartbeats 4000000 in
theorem refmake_any (q : Nat) (S : List Ac) (F : Nat → Prop) (A : Option Addr) (c : Nat) (cells : List Value) (L : List Lg) (w : World) (h : RfS w q S) (hI : Inv S) (hr : Rd w F 2 A L.length cells) (hF : ∀ k, F k → k < w.heap.size ∧ k ≠ q) (hE : Each RdLg 2 cells L) (hL : L.length ≤ 100) :
    Calls Tryz.prog 49 #[.pointer (some ⟨q, 0, none⟩), .slice A L.length c] w (DeedsR q (checkE S L) (makeS S L) w) := by
  have HR := Lib.hid hr
  have HE := Lib.hid hE
  have HH := Lib.hid h
  have HI := Lib.hid hI
  have HF := Lib.hid hF
  have HCK := Lib.hid (refcheck_any q S F A c cells L w h hI hr hE hL)
  by_cases h0 : checkE S L = 0
  · have HM : Hid (makeS S L = legsS S L) := by show _ = _; unfold makeS; rw [if_pos h0]
    have HZ := Lib.hid h0
    have HLZ := Lib.hid (check_zero h0).2.2
    rw [h0] at HCK
    clear hr hE h hI hF h0
    go_enter Tryz.func49, Tryz.ntmps49
    go_wp2_with fail
    refine HCK.out.mono ?_
    rintro e w1 ⟨rfl, hf1⟩
    have HST : Hid (RfS w1 q (legsS S (L.take 0)) ∧ Fr (At1 q) w w1) := ⟨HH.out.no hf1, hf1.mono fun _ _ h => False.elim h⟩
    clear hf1
    go_wp2_with fail
    go_loopw [6] (fun iv wr => MkRel w q S L iv wr) (fun iv _ => L.length - (intOf iv).toNat)
    case atStart => exact ⟨0, Nat.zero_le _, rfl, HST.out.1, HST.out.2⟩
    case round =>
      obtain ⟨i, hi, rfl, hrf, hfr⟩ := hrel
      by_cases hil : i < L.length
      · obtain ⟨ad, rfl, had, hok, q0, q1⟩ := lg_at (HR.out.fr (by omega) hfr fun k hk _ h => (HF.out k hk).2 h) HE.out i hil hil
        obtain ⟨hl0, hln⟩ := legs_next HLZ.out i hil
        have hIT : Inv (legsS S (L.take i)) := inv_legs HI.out _
        obtain ⟨a, ha, hin, hmin, _, hls⟩ := leg_some hl0
        rw [hls] at hln
        generalize legsS S (L.take i) = T at *
        generalize L[i] = g at *
        obtain ⟨k, hk, rfl⟩ := List.getElem_of_mem (getA_some ha).1
        have hnk : T[k].name = g.nm := (getA_some ha).2
        have HLN : Hid (legsS S (L.take (i + 1)) = T.set k { T[k] with hv := T[k].hv + g.sum }) := by
          show _ = _
          rw [hln]
          exact put_set T k hk _ hIT.rise rfl
        have HCS : Hid ((acs T).set (k * 4 + 1) (.int .i64 (T[k].hv + g.sum)) = acs (T.set k { T[k] with hv := T[k].hv + g.sum })) := acs_set T k 1 hk { T[k] with hv := T[k].hv + g.sum } _ (by omega) rfl
        obtain ⟨nm, sm⟩ := g
        unfold Lg.nm at hnk
        unfold Lg.ok at hok
        simp only at q0 q1 hok hnk HLN HCS hin
        have HAT : Hid (∀ W, RfS W q T → Calls Tryz.prog 40 #[.pointer (some ⟨q, 0, none⟩), .string nm] W fun e w' => e = .returned (.int .i64 k) ∧ w' = W) := fun W hW => (refat_at q T nm k hk W hW hIT hnk).mono fun _ _ h => ⟨h.1, h.2.symm⟩
        obtain ⟨A1, c1, hb, h1, h2, ho⟩ := hrf
        obtain ⟨bd, rfl, _, p0, p1, p2, p3⟩ := acs_at ho.rd k hk
        have HGB : Hid (∀ b, (∀ cur, ¬ Blk wr b 56 cur) ∨ wr.heap.size ≤ b → True) := fun _ _ => trivial
        have hTL := hIT.len
        have hqn : (ad.add (i * 2)).block ≠ q := by rw [block_of_add]; exact (HF.out _ had).2
        have hqs : (ad.add (i * 2)).block < wr.heap.size := World.block_lt_of_cell? wr _ q0
        generalize hva : T[k].hv = va at *
        have HVA := Lib.hid hva
        clear hva
        generalize hTT : T.set k { T[k] with hv := va + sm } = T' at *
        have hT'n : T'.length = T.length := by rw [← hTT, List.length_set]
        have c0 := hb.cell 0
        have f0 := hb.frozen 0
        simp only [List.getElem?_toArray, List.getElem?_cons_zero] at c0
        have HB := Lib.hid hb
        have HO := Lib.hid ho
        have HFR := Lib.hid hfr
        have HIN := Lib.hid hin
        unfold In64 at hin
        obtain ⟨hin1, hin2⟩ := hin
        unfold maxLen at h2
        have hsz := hfr.size
        clear hb ho hfr hIT hnk hls hln hl0 ha hmin hok HGB hTT p0 p1 p2 p3
        go_upto_region 6 with (at_builtin; refine wpList_app _ rfl (.const (.slice none 0 0)) (.tmp 24) 46 46 rfl elA (Own.nil _ _ _) rfl (Src.of_rd HO.out.rd (acs_ones T) Tryz.underlying46) rfl (by unfold maxLen; omega) (by omega) ?_; intro v4 w4 hown4 hfr4 hnew4; rw [Nat.zero_add, List.nil_append] at hown4; obtain ⟨g, c4, cur4, rfl, hg4, hc4, hm4, _, _⟩ := hown4.formPos (by omega); have hf4 := fr_at_none (show Fr (AtO none) _ w4 from hfr4); have hb4 := HB.out.fr hf4 (fun h => h); have k4 := hb4.cell 0; have z4 := hb4.frozen 0; simp only [List.getElem?_toArray, List.getElem?_cons_zero] at k4)
        have hqg : q ≠ g := fun h => hown4.ne_ hb4 (by decide) (by rw [h]; rfl)
        have hgn : w.heap.size ≤ g := by
          rcases hnew4 with h | h
          · cases h
          · have h' : some g = some _ := h
            injection h' with h'
            omega
        have hown5 := hown4.setCell (p := ⟨q, 0, none⟩) (hown4.ne_ hb4 (by decide)) (.slice (some ⟨g, 0, none⟩) T.length c4)
        have hb5 := hb4.set_ 0 (.slice (some ⟨g, 0, none⟩) T.length c4)
        have hf5 : Fr (At1 q) wr (w4.setCell ⟨q, 0, none⟩ (.slice (some ⟨g, 0, none⟩) T.length c4)) := Fr.setCell (S := At1 q) (p := ⟨q, 0, none⟩) (hf4.mono fun _ _ h => False.elim h) (fun _ => rfl) _
        generalize (w4.setCell ⟨q, 0, none⟩ (.slice (some ⟨g, 0, none⟩) T.length c4)) = w5 at *
        have hrf5 : RfS w5 q T := rfs_mk rfl hb5 hc4 hm4 hown5
        refine wp_region_tail 22 (by kernel_rfl) (by kernel_rfl) fun w6 hw6 => ?_
        have h56 : Fr No w5 w6 := by rw [hw6]; exact (Fr.refl _ _).drew
        have HF6 := Lib.hid (hf5.trans (h56.mono fun _ _ h => False.elim h))
        have y0 : w6.cell? (ad.add (i * 2)) = some (.string nm) := HF6.out.cell_some q0 hqn
        have y1 : w6.cell? ⟨(ad.add (i * 2)).block, (ad.add (i * 2)).off + 1, none⟩ = some (.int .i64 sm) := HF6.out.cell_some q1 hqn
        have k6 : w6.cell? ⟨q, 0, none⟩ = some (.slice (some ⟨g, 0, none⟩) T.length c4) := (hb5.fr h56 (fun h => h)).cell 0
        have hown6 := hown5.fr h56 (fun _ _ h => h)
        have HRF6 := Lib.hid (hrf5.no h56)
        have HB6 := Lib.hid (hb5.fr h56 (fun h => h))
        obtain ⟨dd, hdd, _, _, r1, _, _⟩ := acs_at hown6.rd k hk
        injection hdd with hdd
        subst hdd
        rw [add_zero, HVA.out] at r1
        have r1' : w6.cell? ⟨g, k * 4 + 1, none⟩ = some (.int .i64 va) := r1
        clear r1
        obtain ⟨hown7, -, hz7⟩ := own_set hown6 (k * 4 + 1) (by omega) (by omega) (.int .i64 (va + sm))
        have HO7 := Lib.hid hown7
        have HAT6 := Lib.hid (HAT.out w6 HRF6.out)
        have hks : k < T.length := hk
        clear hw6 h56 hown5 hown6 hb5 hf5 hrf5 hown4 hf4 hfr4 hb4 k4 z4 hnew4 hg4 hown7 c0 f0 q0 q1
        simp only [List.take_succ_cons, List.take_zero, List.drop_succ_cons, List.drop_zero]
        repeat still_step
        still_call HAT6.out
        repeat still_step
        refine wpStill_nil ?_
        go_wp2
        go_roundw
        case rel =>
          refine ⟨i + 1, by omega, by go_num, ?_, ?_⟩
          · rw [HLN.out]
            refine rfs_mk (by omega) (HB6.out.far hqg _) hc4 hm4 ?_
            rw [← HCS.out]
            exact HO7.out
          · exact Fr.setCell (S := At1 q) (p := ⟨g, k * 4 + 1, none⟩) (HFR.out.trans HF6.out) (fun h => absurd h (by show ¬ g < _; omega)) _
        case measure => simp [intOf]; omega
      · obtain rfl : i = L.length := by omega
        have HEND : Hid (RfS wr q (makeS S L)) := by
          rw [List.take_length] at hrf
          show RfS _ _ _
          rw [HM.out]
          exact hrf
        have HFR := Lib.hid hfr
        clear hrf hfr
        go_wp2
        go_ret
        exact ⟨by rw [HZ.out]; rfl, HEND.out, HFR.out⟩
  · have HM := Lib.hid (make_err h0)
    have hz : (checkE S L == 0) = false := beq_eq_false_iff_ne.2 h0
    generalize checkE S L = E at *
    clear hr hE h hI hF h0
    go_enter Tryz.func49, Tryz.ntmps49
    go_wp2_with fail
    refine HCK.out.mono ?_
    rintro e w1 ⟨rfl, hf1⟩
    have HST : Hid (RfS w1 q S ∧ Fr (At1 q) w w1) := ⟨HH.out.no hf1, hf1.mono fun _ _ h => False.elim h⟩
    clear hf1
    by_cases hl : 0 < L.length
    all_goals
      go_wp2_with fail
      go_loopw [6] (fun iv wr => iv = .int .i64 0 ∧ wr = w1) (fun _ _ => 0)
      case atStart => exact ⟨rfl, rfl⟩
      case round =>
        obtain ⟨rfl, rfl⟩ := hrel
        go_wp2
        go_ret
        exact ⟨rfl, by rw [HM.out]; exact HST.out.1, HST.out.2⟩
end Go.Proofs.YtcjdkifojkjjeaaGreat
