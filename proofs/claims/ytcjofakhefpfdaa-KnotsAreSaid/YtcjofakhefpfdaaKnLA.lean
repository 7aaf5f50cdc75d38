/- KnotsAre: Order, and the walk. -/
import Derived.Test.YtcjofakhefpfdaaKnRK
import Derived.Test.YtcjofakhefpfdaaKnMA
import Derived.Test.YtcjofakhefpfdaaKnCon
import Derived.Test.YtcjofakhefpfdaaKnL1
import Derived.Test.YtcjofakhefpfdaaKnOp
namespace Go.Proofs.Ytcjofakhefpfdaa
open Go.RowKit Go.My Go.My.Kn Go.Maps
set_option linter.unusedSimpArgs false
set_option linter.unusedVariables false
attribute [local go_sem ↓] Go.wp_at_zero Go.wp_at_succ

/-- few places: the row is short -/
theorem seq_flat {G : List (List Int)} {L : List (List Nat)} (hn : G.length ≤ 30) (hs : KnSeq G.length (via' G) [] L) : L.length ≤ 30 ∧ (∀ K ∈ L, K.length ≤ 30) ∧ (flatI (L.map il)).length ≤ 900 := by
  obtain ⟨h1, h2⟩ := seq_len (reachR G).toReach hs List.nodup_nil (fun d h => by cases h)
  rw [List.length_nil] at h1
  refine ⟨by omega, fun K hK => Nat.le_trans (h2 K hK) hn, ?_⟩
  have h3 := flat_len (L := L.map il) (m := 30) (fun K hK => by
    obtain ⟨K', hK', rfl⟩ := List.mem_map.1 hK
    rw [il_len]
    exact Nat.le_trans (h2 K' hK') hn)
  rw [List.length_map] at h3
  unfold flatI
  have h4 : L.length * 30 ≤ 30 * 30 := Nat.mul_le_mul_right _ (by omega)
  omega

set_option maxRecDepth 100000 in
set_option maxHeartbeats 2000000 in
theorem order_any (w : World) (F : Nat → Prop) (A : Option Addr) (c n : Nat) (G : List (List Int)) (L : List (List Nat)) (hn' : n = G.length) (hg : RdG w F A G) (hn : n ≤ 30) (hm : ∀ L ∈ G, L.length ≤ 20) (hs : KnSeq G.length (via' G) [] L) :
    Calls Try.prog 14 #[.slice A n c] w (RetOwn w 3 1 none (flatI (L.map il)).length (is_ (flatI (L.map il)))) := by
  subst hn'
  have HKA := Lib.hid (knots_any w F A c 20 G hg (by omega) hm (by omega) (by omega))
  obtain ⟨h30, -, h900⟩ := seq_flat hn hs
  have HCC : Hid (∀ (W : World) (L2 : List (List Nat)) (A2 : Option Addr) (c2 : Nat), KnSeq G.length (via' G) [] L2 → RdG W (fun k => w.heap.size ≤ k) A2 (L2.map il) → Calls Try.prog 25 #[.slice A2 L2.length c2] W (RetOwn W 3 1 none (flatI (L.map il)).length (is_ (flatI (L.map il))))) := Lib.hid (fun W L2 A2 c2 hs2 hr2 => by
    obtain rfl := hs2.det hs
    have h := concatI_any _ A2 c2 (L2.map il) W hr2 (by rw [List.length_map]; omega) (by omega)
    rw [List.length_map] at h
    exact h)
  clear hg hm hs hn h30 h900
  go_enter Try.func14, Try.ntmps14
  go_wp2_with (first
    | (go_at_call 11; (with_reducible refine HKA.out.mono ?_); rintro _ w3 ⟨L2, Aa, ca, rfl, p1, p2, p3, p4, p5⟩; have HC2 := Lib.hid (HCC.out w3 L2 Aa ca p1 p2); have HF3 := Lib.hid p5; clear p1 p2 p3 p4 p5)
    | (go_at_call 25; (with_reducible refine HC2.out.mono ?_); rintro _ w4 ⟨v, rfl, ho, hf, hnw⟩; have HO := Lib.hid ho; have HF4 := Lib.hid hf; have HN4 := Lib.hid hnw; clear ho hf hnw))
  go_ret
  refine ⟨v, rfl, HO.out, (HF3.out.trans (fr_at_none HF4.out)).mono (fun _ _ h => False.elim h), ?_⟩
  rcases HN4.out with e | ⟨k, e, hk⟩
  · exact .inl e
  · exact .inr ⟨k, e, Nat.le_trans HF3.out.size hk⟩

/-- all of the first i -/
def AllS (Ls : List (List Int)) (w4 : World) (ov iv : Value) (wr : World) : Prop :=
  ∃ (i : Nat) (B : Option Addr) (d m : Nat), m = (flatI (Ls.take i)).length ∧ ov = .slice B m d ∧ iv = .int .i64 (i : Int) ∧ i ≤ Ls.length ∧ Own wr 3 1 (.slice B m d) m (is_ (flatI (Ls.take i))) ∧ (∀ k, (Value.slice B m d).ownBlock = some k → w4.heap.size ≤ k) ∧ Fr No w4 wr

set_option maxRecDepth 100000 in
set_option maxHeartbeats 4000000 in
theorem knotsAre_walk (A : Option Addr) (c : Nat) (g : List (List Int)) (W : World) (hg : RdG W (Lt W.heap.size) A g) (lc : g.length ≤ c) (cm : c ≤ maxLen) :
    Calls Try.prog 3 #[.slice A g.length c] W (RetTrue W) := by
  have hmax : maxLen ≤ 9223372036854775807 := by simp [maxLen]
  have HFW : Hid (∀ w1, Fr No W w1 → Calls Try.prog 10 #[.slice A g.length c, .int .i64 30] w1 (FewR w1 (Lt W.heap.size) g 30)) := Lib.hid (fun w1 h1 => few_any w1 (Lt W.heap.size) A c 30 g (hg.no h1) (by omega) (by omega))
  have HLV := Lib.hid (lives13 W)
  clear hg lc cm hmax
  go_enter Try.func3, Try.ntmps3
  go_upto_region 4 with (first
    | (go_at_call 9; (with_reducible refine HLV.out.mono ?_); rintro _ w1 ⟨rfl, hf1⟩; have HF1 := Lib.hid hf1; clear hf1)
    | (go_at_call 10; (with_reducible refine (HFW.out _ HF1.out).mono ?_); rintro _ w2 ⟨B, d, rfl, hg2, hf2⟩; have HG2 := Lib.hid hg2; have HF2 := Lib.hid (HF1.out.trans hf2); clear hg2 hf2))
  have hn30 : (fewG g 30).length ≤ 30 := by rw [fewG_len]; omega
  have hm20 : ∀ L ∈ fewG g 30, L.length ≤ 20 := fewG_row
  generalize fewG g 30 = G at *
  generalize hgn : G.length = n at *
  have HM20 := Lib.hid hm20
  have HGN := Lib.hid hgn
  have HKA : Hid (Calls Try.prog 11 #[.slice B n d] w2 (KnR w2 G)) := Lib.hid (by
    have h := knots_any w2 _ B d 20 G HG2.out (by rw [HGN.out]; omega) HM20.out (by omega) (by rw [HGN.out]; omega)
    rw [HGN.out] at h; exact h)
  have HKB : Hid (∀ w3, Fr No w2 w3 → Calls Try.prog 12 #[.slice B n d] w3 (KnR w3 G)) := Lib.hid (fun w3 h3 =>
    refknots_any w3 _ B d n G HGN.out.symm (HG2.out.no h3) (by omega) (fun L hL => Nat.le_trans (HM20.out L hL) (by omega)))
  have HOR : Hid (∀ w3 L, Fr No w2 w3 → KnSeq G.length (via' G) [] L → Calls Try.prog 14 #[.slice B n d] w3 (RetOwn w3 3 1 none (flatI (L.map il)).length (is_ (flatI (L.map il))))) := Lib.hid (fun w3 L h3 hs =>
    order_any w3 _ B d n G L HGN.out.symm (HG2.out.no h3) hn30 HM20.out hs)
  clear hgn hm20
  have hn30' := Lib.hid hn30
  go_wp2_with (first
    | (go_at_call 11; (with_reducible refine HKA.out.mono ?_); rintro _ w3 ⟨L, Aa, ca, rfl, p1, p2, p3, p4, p5⟩; have HS := Lib.hid p1; have HRA := Lib.hid p2; have HF3 := Lib.hid p5; have hla := Nat.le_trans p3 p4; clear p1 p2 p3 p4 p5)
    | (go_at_call 12; (with_reducible refine (HKB.out _ HF3.out).mono ?_); rintro _ w4 ⟨L4, Ab, cb, rfl, p1, p2, p3, p4, p5⟩; obtain rfl : L4 = L := p1.det HS.out; have HRB := Lib.hid p2; have HF4 := Lib.hid p5; clear p1 p2 p3 p4 p5; have hne : ((L4.length : Int) != (L4.length : Int)) = false := by simp))
  obtain ⟨h30, h30', h900⟩ := seq_flat (by rw [HGN.out]; exact hn30'.out) HS.out
  have HRA4 := Lib.hid (HRA.out.no HF4.out)
  have HF24 : Hid (Fr No w2 w4) := Lib.hid (HF3.out.trans HF4.out)
  have H900 := Lib.hid h900
  obtain ⟨Ls, hLs⟩ : ∃ Ls, Ls = L4.map il := ⟨_, rfl⟩
  have hll : L4.length = Ls.length := by rw [hLs, List.length_map]
  have H30 : Hid (∀ K ∈ Ls, K.length ≤ 30) := Lib.hid (fun K hK => by
    rw [hLs] at hK
    obtain ⟨K', hK', rfl⟩ := List.mem_map.1 hK
    rw [il_len]
    exact h30' K' hK')
  rw [← hLs] at HRA4 HRB H900
  rw [hll] at h30 ⊢
  have HLS := Lib.hid hLs
  clear hLs hll h30' h900 hla hne hn30
  go_loopw [5, 6] (fun ov iv wr => AllS Ls w4 ov iv wr) (fun _ iv _ => Ls.length - (intOf iv).toNat)
  case atStart => exact ⟨0, none, 0, 0, rfl, rfl, rfl, Nat.zero_le _, Own.nil _ _ _, fun k hk => by simp [Value.ownBlock] at hk, Fr.refl _ _⟩
  case round =>
    obtain ⟨i, B1, d1, m, hm, rfl, rfl, hi, ho, hnw, hf⟩ := hrel
    have HO := Lib.hid ho
    have HNW := Lib.hid hnw
    have HF := Lib.hid hf
    have HM := Lib.hid hm
    clear ho hnw hf hm
    by_cases hil : i < Ls.length
    · have hilI : (i : Int) < (Ls.length : Int) := by omega
      obtain ⟨i1, hi1⟩ : ∃ i1, i1 = i + 1 := ⟨_, rfl⟩
      have hwi : wrap64 ((i : Int) + 1) = (i1 : Int) := w1000 hi1 (by omega)
      have HI1 := Lib.hid hi1
      have hfl := flatI_take hil
      have hfm := flatI_le (Ls := Ls) (i + 1)
      rw [hfl, List.length_append, ← HM.out] at hfm
      have HFL := Lib.hid hfl
      obtain ⟨K, hK⟩ : ∃ K, K = Ls[i] := ⟨_, rfl⟩
      have HKL : Hid (K.length ≤ 30) := Lib.hid (by rw [hK]; exact H30.out _ (List.getElem_mem hil))
      obtain ⟨ad1, A1, c1, rfl, a1, a2, -, -⟩ := (HRA4.out.no HF.out).at_ i hil
      obtain ⟨ad2, A2, c2, rfl, b1, b2, -, -⟩ := (HRB.out.no HF.out).at_ i hil
      rw [← hK] at a1 a2 b1 b2 hfm HFL
      have HSM : Hid (∀ W', Fr No wr W' → Calls Try.prog 13 #[.slice A1 K.length c1, .slice A2 K.length c2] W' fun e w' => e = .returned (.bool true) ∧ Fr No W' w') := Lib.hid (fun W' h' => by
        have h := sameI_any W' _ _ A1 A2 c1 c2 K K (a2.no_ h') (b2.no_ h') (by have := HKL.out; omega)
        refine h.mono ?_
        rintro e w' ⟨rfl, hf'⟩
        exact ⟨by simp, hf'⟩)
      have HB1 : Hid (∀ W', Fr No wr W' → W'.cell? (ad2.add i) = some (.slice A2 K.length c2)) := Lib.hid (fun W' h' => h'.cell_some b1 fun h => h)
      have HSC : Hid (∀ W', Fr No wr W' → Src Try.prog W' 1 26 (.slice A2 K.length c2) K.length (is_ K)) := Lib.hid (fun W' h' => Src.of_rd (b2.no_ h') (is_one _) Try.underlying26)
      have hX : Hid (m + K.length ≤ maxLen ∧ (m + K.length) * 8 ≤ 140737488355328) := by
        have := H900.out
        refine ⟨?_, ?_⟩ <;> (try simp only [maxLen]) <;> omega
      have HDR : Hid (Fr No wr wr.drew) := Lib.hid (Fr.refl _ _).drew
      clear hi1 hK a2 b2 hfl hfm
      go_wp2
      go_region_with (go_at_call 13; (with_reducible refine Calls.mono (HSM.out _ HDR.out) ?_); rintro _ w8 ⟨rfl, hf8⟩; have HF8 := Lib.hid (HDR.out.trans hf8); have hb8 := HB1.out _ (HDR.out.trans hf8); clear hf8)
      all_goals
        have HO8 := Lib.hid (HO.out.fr HF8.out fun k _ h => h)
        go_wp2_with (at_builtin; refine wpList_app _ rfl (.tmp 36) (.tmp 40) 26 26 rfl elI HO8.out rfl (HSC.out _ HF8.out) rfl hX.out.1 hX.out.2 ?_; intro v7 w7 hown7 hfr7 hnew7; obtain ⟨A7, c7, rfl, _, _⟩ := hown7.form; have HO7 := Lib.hid hown7; have HF7 := Lib.hid hfr7; have HN7 := Lib.hid hnew7; clear hown7 hfr7 hnew7)
        go_roundw
        case measure =>
          first
            | (show Ls.length - (intOf (Value.int .i64 (wrap64 ((i : Int) + 1)))).toNat < Ls.length - (intOf (Value.int .i64 (i : Int))).toNat; rw [hwi]; exact num_lt hil HI1.out)
            | (show Ls.length - (intOf (Value.int .i64 ((i : Int) + 1))).toNat < Ls.length - (intOf (Value.int .i64 (i : Int))).toNat; exact num_lt hil rfl)
        case rel =>
          refine ⟨i1, A7, c7, m + K.length, ?_, rfl, by first | rw [hwi] | (rw [HI1.out]; rfl), by rw [HI1.out]; exact hil, ?_, fun x hx => ?_, ?_⟩
          · rw [HI1.out, HFL.out, List.length_append, HM.out]
          · rw [HI1.out, HFL.out, is_append]; exact HO7.out
          · rcases HN7.out with e | e
            · exact HNW.out x (e ▸ hx)
            · rw [e] at hx; injection hx with hx; have := HF.out.size; have := HF8.out.size; omega
          · exact (HF.out.trans HF8.out).trans' HF7.out fun x hx hlt => by have := HNW.out x hx; omega
    · have hilI : ¬ (i : Int) < (Ls.length : Int) := by omega
      obtain rfl : i = Ls.length := by omega
      have hfull : flatI (Ls.take Ls.length) = flatI Ls := by rw [List.take_length]
      rw [hfull] at HO HM
      obtain rfl := HM.out
      have HFE : Hid (Fr No w2 wr) := Lib.hid (HF24.out.trans HF.out)
      have HORX : Hid (Calls Try.prog 14 #[.slice B n d] wr (RetOwn wr 3 1 none (flatI Ls).length (is_ (flatI Ls)))) := Lib.hid (by
        have h := HOR.out wr L4 HFE.out HS.out
        rw [← HLS.out] at h
        exact h)
      have HSX : Hid (∀ (w5 : World) (A1 : Option Addr) (c1 : Nat), Fr No wr w5 → Own w5 3 1 (.slice A1 (flatI Ls).length c1) (flatI Ls).length (is_ (flatI Ls)) → Calls Try.prog 13 #[.slice A1 (flatI Ls).length c1, .slice B1 (flatI Ls).length d1] w5 fun e w' => e = .returned (.bool true) ∧ Fr No w5 w') := Lib.hid (fun w5 A1 c1 h5 o1 => by
        have h := sameI_any w5 _ _ A1 B1 c1 d1 (flatI Ls) (flatI Ls) o1.rd (HO.out.rd.no_ h5) (by have := H900.out; omega)
        refine h.mono ?_
        rintro e w' ⟨rfl, hf'⟩
        exact ⟨by simp, hf'⟩)
      clear hfull
      go_wp2_with (first
        | (go_at_call 14; (with_reducible refine HORX.out.mono ?_); rintro _ w5 ⟨v, rfl, o1, f1, n1⟩; obtain ⟨A1, c1, rfl, _, _⟩ := o1.form; have f1' := fr_at_none f1; have HS1' := Lib.hid (HSX.out w5 A1 c1 f1' o1); have HF5 := Lib.hid (HFE.out.trans f1'); clear o1 f1 n1 f1')
        | (go_at_call 13; (with_reducible refine HS1'.out.mono ?_); rintro _ w6 ⟨rfl, f6⟩; have HF6 := Lib.hid (HF5.out.trans f6); clear f6))
      go_ret
      exact ⟨rfl, (HF2.out.trans HF6.out).belowNo⟩
end Go.Proofs.Ytcjofakhefpfdaa
