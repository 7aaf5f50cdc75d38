/- VoucherNets' walk. -/
import Derived.Test.YtpaeohmoecdniabVouK
import Derived.Test.YtpaeohmoecdniabVouT
namespace Go.Proofs.Ytpaeohmoecdniab
open Go.RowKit Go.My Go.Maps
set_option linter.unusedSimpArgs false
set_option linter.unusedVariables false
attribute [local go_sem ↓] Go.wp_at_zero Go.wp_at_succ

def ownN (T : List (List Lg)) : List (List Lg) := T.map (List.take 8)
theorem ownN_take {T : List (List Lg)} {k : Nat} (hk : k < T.length) : ownN (T.take (k + 1)) = ownN (T.take k) ++ [T[k].take 8] := by
  unfold ownN
  rw [List.take_succ_eq_append_getElem hk, List.map_append]
  rfl
theorem ownN_lenk {T : List (List Lg)} {k : Nat} (hk : k ≤ T.length) : (ownN (T.take k)).length = k := by
  unfold ownN
  rw [List.length_map, List.length_take]
  omega
theorem ownN_ok {T : List (List Lg)} (h : ∀ L ∈ T, ∀ g ∈ L, g.ok) (hT : T.length ≤ 10) : (∀ g ∈ flatL (ownN T), g.ok) ∧ (flatL (ownN T)).length ≤ 80 ∧ (ownN T).length ≤ 10 := by
  have hl : (ownN T).length ≤ 10 := by unfold ownN; rw [List.length_map]; exact hT
  refine ⟨fun g hg => ?_, ?_, hl⟩
  · unfold flatL at hg
    obtain ⟨L, hL, hgL⟩ := List.mem_flatten.1 hg
    unfold ownN at hL
    obtain ⟨L', hL', rfl⟩ := List.mem_map.1 hL
    exact h L' hL' g (List.mem_of_mem_take hgL)
  · have := flat_bound (ownN T) (fun L hL => by
      unfold ownN at hL
      obtain ⟨L', _, rfl⟩ := List.mem_map.1 hL
      rw [List.length_take]
      omega)
    omega
theorem mirr_oks {L : List Lg} (h : ∀ g ∈ L, g.ok) : (∀ g ∈ mirrL L, g.ok) ∧ (mirrL L).length ≤ L.length := by
  unfold mirrL
  by_cases h0 : mirrE L = 0
  · rw [if_pos h0]
    refine ⟨fun g hg => ?_, by rw [negL_length]; exact Nat.le_refl _⟩
    unfold negL at hg
    obtain ⟨b, hb, rfl⟩ := List.mem_map.1 hg
    have h1 := h b hb
    unfold mirrE at h0
    split at h0
    · rename_i hall
      have h2 := of_decide_eq_true (List.all_eq_true.1 hall b hb)
      unfold Lg.ok In64 at h1 ⊢
      exact ⟨h1.1, by simp only; omega⟩
    · cases h0
  · rw [if_neg h0]
    exact ⟨fun g hg => (by cases hg), Nat.zero_le _⟩
def U1Rel (w2 : World) (T : List (List Lg)) (ov iv : Value) (wr : World) : Prop := ∃ i : Nat, i ≤ T.length ∧ iv = .int .i64 i ∧ LsO wr w2.heap.size ov (ownN (T.take i)) ∧ Fr No w2 wr

set_option maxRecDepth 100000 in
set_option maxHeartbeats 0 in
theorem voucherNets_walk (A : Option Addr) (c : Nat) (cells : List Value) (T0 : List (List Lg)) (w : World)
    (hr : Rd w (Lt w.heap.size) 1 A T0.length cells) (hc : T0.length ≤ c) (hcm : c ≤ maxLen) (hE : Each (RdLL w w.heap.size) 1 cells T0) :
    Calls Try.prog 4 #[.slice A T0.length c] w (RetTrue w) := by
  have hallok : ∀ L ∈ T0, ∀ g ∈ L, g.ok := fun L hL => by
    obtain ⟨i, hi, rfl⟩ := List.getElem_of_mem hL
    obtain ⟨_, _, _, _, _, _, _, h, _⟩ := ll_at hr hE i hi
    exact h
  have HLL0 : Hid (∀ W, Below w.heap.size w W → ∀ i (hi : i < T0.length), ∃ ad A' c', A = some ad ∧ W.cell? (ad.add i) = some (.slice A' T0[i].length c') ∧ Rd W (Lt w.heap.size) 2 A' T0[i].length (lgs T0[i]) ∧ (∀ g ∈ T0[i], g.ok) ∧ T0[i].length ≤ c' ∧ c' ≤ maxLen) := fun W hW i hi => by
    obtain ⟨ad, A', c', h1, h2, h3, h4, h5, h6, h7⟩ := ll_at hr hE i hi
    refine ⟨ad, A', c', h1, ?_, h4.below hW fun _ h => h, h5, h6, h7⟩
    rw [hW.cell (by rw [block_of_add]; exact h2)]
    exact h3
  obtain ⟨T, hT⟩ : ∃ T, T0.take 10 = T := ⟨_, rfl⟩
  have hTl : T.length = min T0.length 10 := by rw [← hT, List.length_take, Nat.min_comm]
  have HOWN : Hid ((∀ g ∈ flatL (ownN T), g.ok) ∧ (flatL (ownN T)).length ≤ 80 ∧ (ownN T).length ≤ 10) := by
    refine ownN_ok (fun L hL => ?_) (by omega)
    rw [← hT] at hL
    exact hallok L (List.mem_of_mem_take hL)
  have HLL : Hid (∀ W, Below w.heap.size w W → ∀ i (hi : i < T.length), ∃ ad A' c', A = some ad ∧ W.cell? (ad.add i) = some (.slice A' T[i].length c') ∧ Rd W (Lt w.heap.size) 2 A' T[i].length (lgs T[i]) ∧ (∀ g ∈ T[i], g.ok) ∧ T[i].length ≤ c' ∧ c' ≤ maxLen) := fun W hW i hi => by
    have e : T[i] = T0[i]'(by omega) := by simp [← hT]
    rw [e]
    exact HLL0.out W hW i (by omega)
  have hcm' := hcm
  unfold maxLen at hcm'
  have hTi : (T0.length : Int) ≤ 9223372036854775807 := by omega
  have hTm : (min (T0.length : Int) 10).toNat = T.length := by omega
  have hTd : T.length ≤ c := by omega
  have hT10 : T.length ≤ 10 := by omega
  have HTM := Lib.hid hTm
  clear hr hE hcm hcm' hallok HLL0 hT hTl hTm
  go_enter Try.func4, Try.ntmps4
  go_wp2_with fail
  refine (livesV _).mono ?_
  rintro e w2 ⟨rfl, hb2⟩
  have HB2 := Lib.hid hb2
  have hs2 := hb2.size
  clear hb2
  go_upto_block 0 with (fail)
  try rw [HTM.out]
  go_wp2_with fail
  go_loopw [3, 4] (fun ov iv wr => U1Rel w2 T ov iv wr) (fun _ iv _ => T.length - (intOf iv).toNat)
  case atStart => exact ⟨0, Nat.zero_le _, rfl, LsO.nil _ _, Fr.refl _ _⟩
  case round =>
    obtain ⟨i, hi, rfl, hlo, hfr⟩ := hrel
    by_cases hlt : i < T.length
    · obtain ⟨ad, A', c', rfl, q0, hrL, hokL, hLc, hLm⟩ := HLL.out wr (below_fr_no HB2.out hfr (by omega)) i hlt
      have hadl : ad.block < w.heap.size := by
        obtain ⟨ad2, _, _, he, h2, _⟩ := HLL.out w (Below.refl _ _) i hlt
        injection he with he
        subst he
        have := World.block_lt_of_cell? w _ h2
        rwa [block_of_add] at this
      have HQ : Hid (∀ W, Fr No w2 W → W.cell? (ad.add i) = some (.slice A' T[i].length c')) := fun W hW => by
        rw [(below_fr_no HB2.out hW (by omega)).cell (by rw [block_of_add]; exact hadl), ← (below_fr_no HB2.out hfr (by omega)).cell (by rw [block_of_add]; exact hadl)]
        exact q0
      have E1 : Hid (ownN (T.take (i + 1)) = ownN (T.take i) ++ [T[i].take 8]) := ownN_take hlt
      have HLK : Hid ((ownN (T.take i)).length = i) := ownN_lenk (by omega)
      have hM : (T[i].take 8).length = min T[i].length 8 := by rw [List.length_take, Nat.min_comm]
      have HMK : Hid (∀ g ∈ T[i].take 8, g.ok) := fun g hg => hokL g (List.mem_of_mem_take hg)
      have hrM : Rd wr (Lt w.heap.size) 2 A' (T[i].take 8).length (lgs (T[i].take 8)) := by
        have h1 := hrL.take (k := (T[i].take 8).length) (by omega)
        have h2 : (lgs T[i]).take ((T[i].take 8).length * 2) = lgs (T[i].take 8) := by
          have e : lgs T[i] = lgs (T[i].take 8) ++ lgs (T[i].drop 8) := by rw [← lgs_append, List.take_append_drop]
          rw [e]
          exact List.take_left' (lgs_length _)
        rwa [h2] at h1
      have HFW : Hid (∀ W, Calls Try.prog 11 #[.slice A' T[i].length c'] W fun e w' => e = .returned (.slice A' (T[i].take 8).length c') ∧ W = w') := fun W => by
        have h := few_any A' T[i].length c' W hLc hLm
        rwa [← hM] at h
      have hM8 : (T[i].take 8).length ≤ 8 := by omega
      generalize T[i].take 8 = M at *
      generalize T[i].length = tl at *
      obtain ⟨Ao, co, hov, hoc, hocm⟩ := hlo.form
      rw [HLK.out] at hov hoc
      subst hov
      have HLO := Lib.hid hlo
      have HFO := Lib.hid hfr
      have HRM : Hid (∀ W, Fr No w2 W → Rd W (Lt w.heap.size) 2 A' M.length (lgs M)) := fun W hW => hrM.keep fun p hp => by
        have hp' : p.block < w.heap.size := hp
        rw [(below_fr_no HB2.out hW (by omega)).cell hp', (below_fr_no HB2.out hfr (by omega)).cell hp']
      have hso := hfr.size
      obtain ⟨⟨cells3, hoc3, _, _⟩, _⟩ := hlo
      rw [HLK.out] at hoc3
      have HOC := Lib.hid hoc3
      have hX : Hid (i + 1 ≤ maxLen ∧ (i + 1) * 24 ≤ 140737488355328) := by
        refine ⟨?_, ?_⟩ <;> (try simp only [maxLen]) <;> omega
      have HARM : Hid (∀ v5 w5, Own w5 23 1 v5 (i + 1) (cells3 ++ [.slice A' M.length c']) → Fr (AtO (Value.slice Ao i co).ownBlock) (wr.alloc (.cells #[.slice A' M.length c'] 23)) w5 → (v5.ownBlock = (Value.slice Ao i co).ownBlock ∨ v5.ownBlock = some (wr.alloc (.cells #[.slice A' M.length c'] 23)).heap.size) →
          LsO w5 w2.heap.size v5 (ownN (T.take (i + 1))) ∧ Fr No w2 w5 ∧ w5.cell? (ad.add i) = some (.slice A' tl c')) := fun v5 w5 ho5 hf5 hn5 => by
        have hfa : Fr No wr (wr.alloc (.cells #[.slice A' M.length c'] 23)) := (Fr.refl _ _).alloc _
        have hf25 : Fr No w2 w5 := (HFO.out.trans hfa).trans' hf5 fun j hj hlt => by
          have := HLO.out.2 j hj
          omega
        refine ⟨?_, hf25, HQ.out _ hf25⟩
        rw [E1.out]
        exact LsO.push (L := M) (c := c') (A := A') (v' := v5) (w' := w5) (cells := cells3) (HLO.out.no hfa) (((HRM.out _ (HFO.out.trans hfa)).lt (by omega)).more fun k hk => ⟨hk.2, .inl (by have : k < w.heap.size := hk.1; omega)⟩) (by rw [HLK.out]; exact HOC.out.fr hfa (fun _ _ h => h)) (by rw [HLK.out]; exact ho5) hf5 hn5 (by have := hfa.size; omega)
      clear hfr hi hrL hokL hrM hM hoc3 hLc hLm hocm
      go_wp2_with fail
      refine (HFW.out _).mono ?_
      rintro e w3 ⟨rfl, rfl⟩
      go_wp2_with (at_builtin; refine wpList_app _ rfl (.tmp 26) (.tmp 32) 38 38 rfl elLL (HOC.out.alloc _) rfl (Src.of_new wr.heap.size (heap_alloc_new wr _) Try.underlying38 rfl (by simp [Value.oneCell'])) rfl hX.out.1 hX.out.2 ?_; intro v5 w5 ho5 hf5 hn5; obtain ⟨hl5, hf25, q5⟩ := HARM.out v5 w5 ho5 hf5 hn5)
      have HL5 := Lib.hid hl5
      have HF5 := Lib.hid hf25
      have HMK' := HMK.out
      have HM1 : Hid (∀ c'', Calls Try.prog 18 #[.slice A' M.length c''] w5 (RetLs w5 (mirrL M) (mirrE M))) := fun c'' => mirror_any _ A' c'' M w5 (HRM.out _ HF5.out) HMK.out (by omega)
      have HM2 : Hid (∀ W c'', Fr No w2 W → Calls Try.prog 19 #[.slice A' M.length c''] W (RetLs W (mirrL M) (mirrE M))) := fun W c'' hW => refmirror_any _ A' c'' M W (HRM.out _ hW) HMK.out (by omega)
      have HMO := Lib.hid (mirr_oks HMK.out)
      obtain ⟨hmo1, hmo2⟩ := mirr_oks HMK.out
      generalize mirrL M = R at *
      generalize mirrE M = E at *
      clear ho5 hf5 hn5 hl5 hf25 HMK' q0 hmo1 HARM
      go_wp2_with fail
      refine (HFW.out _).mono ?_
      rintro e w6 ⟨rfl, rfl⟩
      go_wp2_with fail
      refine (HM1.out _).mono ?_
      rintro e w7 ⟨v7, rfl, ho7, hf7, _⟩
      obtain ⟨A7, c7, rfl, _, _⟩ := ho7.form
      have HF7 := Lib.hid (HF5.out.trans hf7)
      have HO7 := Lib.hid ho7.rd
      have HF57 := Lib.hid hf7
      have q7 := HQ.out _ HF7.out
      clear ho7 hf7 q5
      go_wp2_with fail
      refine (HFW.out _).mono ?_
      rintro e w8 ⟨rfl, rfl⟩
      go_wp2_with fail
      refine (HM2.out _ _ HF7.out).mono ?_
      rintro e w9 ⟨v9, rfl, ho9, hf9, _⟩
      obtain ⟨A9, c9, rfl, _, _⟩ := ho9.form
      have hsl := sameL_any _ _ A7 A9 c7 c9 R R w9 (HO7.out.fr (by omega) hf9 fun _ _ _ h => h) ho9.rd HMO.out.1 HMO.out.1 (by omega)
      rw [decide_eq_true rfl] at hsl
      have HSL := Lib.hid hsl
      have HF9 := Lib.hid (HF7.out.trans hf9)
      have HL9 := Lib.hid (HL5.out.no (HF57.out.trans hf9))
      clear ho9 hf9 hsl q7
      go_wp2_with fail
      refine HSL.out.mono ?_
      rintro e w10 ⟨rfl, j10, rfl⟩
      go_wp2
      go_roundw
      case rel => exact ⟨i + 1, by omega, by go_num, HL9.out.no ((Fr.refl No w9).drewN j10), HF9.out.drewN j10⟩
      case measure => simp [intOf]; omega
    · obtain rfl : i = T.length := by omega
      rw [List.take_length] at hlo
      obtain ⟨hok, hfl, hln⟩ := HOWN.out
      generalize ownN T = Ls at *
      obtain ⟨Ao, co, rfl, hoc, hocm⟩ := hlo.form
      obtain ⟨w3, rfl⟩ : ∃ w3 : World, w3 = wr := ⟨_, rfl⟩
      have HN1 := Lib.hid (net_any Ao co Ls w3 hlo.ls hok (by omega) (by omega))
      have HN2 : Hid (∀ W, Fr No w3 W → Calls Try.prog 22 #[.slice Ao Ls.length co] W (RetLs W (netL (flatL Ls)) (netE (flatL Ls)))) := fun W hW => refnet_any Ao co Ls W (hlo.ls.fr hW) hok (by omega) (by omega)
      have HF3 := Lib.hid hfr
      have HNO : Hid ((∀ g ∈ netL (flatL Ls), g.ok) ∧ (netL (flatL Ls)).length ≤ 80) := by
        by_cases h0 : netE (flatL Ls) = 0
        · have hin : ∀ a ∈ nmA (flatL Ls), In64 (total (sumsOf (flatL Ls) a.name)) := fun a ha => by
            unfold netE at h0
            split at h0
            · rename_i hall
              exact of_decide_eq_true (List.all_eq_true.1 hall a ha)
            · cases h0
          obtain ⟨h1, h2, _⟩ := nets_ok hok hin
          exact ⟨h1, by omega⟩
        · have e : netL (flatL Ls) = [] := by unfold netL; rw [if_neg h0]
          rw [e]
          exact ⟨fun g hg => (by cases hg), Nat.zero_le _⟩
      generalize netL (flatL Ls) = N at *
      generalize netE (flatL Ls) = E at *
      have hno2 := HNO.out.2
      clear hlo hfr hok hfl hocm
      go_wp2_with fail
      refine HN1.out.mono ?_
      rintro e w4 ⟨v4, rfl, ho4, hf4, _⟩
      obtain ⟨A4, c4, rfl, _, _⟩ := ho4.form
      have HO4 := Lib.hid ho4.rd
      have HF4 := Lib.hid hf4
      clear ho4 hf4
      go_wp2_with fail
      refine (HN2.out _ HF4.out).mono ?_
      rintro e w5 ⟨v5, rfl, ho5, hf5, _⟩
      obtain ⟨A5, c5, rfl, _, _⟩ := ho5.form
      have hsl := sameL_any _ _ A4 A5 c4 c5 N N w5 (HO4.out.fr (by omega) hf5 fun _ _ _ h => h) ho5.rd HNO.out.1 HNO.out.1 (by omega)
      rw [decide_eq_true rfl] at hsl
      have HSL := Lib.hid hsl
      have HF5 := Lib.hid (HF3.out.trans (HF4.out.trans hf5))
      clear ho5 hf5 hsl
      go_wp2_with fail
      refine HSL.out.mono ?_
      rintro e w6 ⟨rfl, j6, rfl⟩
      go_wp2
      go_ret
      exact ⟨rfl, below_drewN (below_fr_no HB2.out HF5.out (by omega)) _⟩
end Go.Proofs.Ytpaeohmoecdniab
