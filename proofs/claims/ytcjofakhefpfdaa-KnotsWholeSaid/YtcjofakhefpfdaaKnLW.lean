/- KnotsWhole: the walk. -/
import Derived.Test.YtcjofakhefpfdaaKnM9
import Derived.Test.YtcjofakhefpfdaaKnLB
import Derived.Deep.QuietTactic
namespace Go.Proofs.Ytcjofakhefpfdaa
open Go.RowKit Go.My Go.My.Kn Go.Maps
set_option linter.unusedSimpArgs false
set_option linter.unusedVariables false
attribute [local go_sem ↓] Go.wp_at_zero Go.wp_at_succ

/-- what is noted, when the first k places of knot i have been read -/
def WoS (L : List (List Nat)) (n ab : Nat) (w3 : World) (i k : Nat) (wr : World) : Prop := Own wr 3 1 (.slice (some ⟨ab, 0, none⟩) n n) n (ns (sn L i k) n) ∧ Fr No w3 wr
theorem il_at (K : List Nat) (k : Nat) (h : k < K.length) : (is_ (il K))[k]? = some (.int .i64 (K[k] : Int)) := by
  unfold is_ il
  simp [h]

theorem w_pred (k0 : Nat) (h : k0 ≤ 1000) : wrap64 (((k0 + 1 : Nat) : Int) - 1) = (k0 : Int) := by unfold wrap64; omega

set_option maxRecDepth 100000 in
set_option maxHeartbeats 8000000 in
theorem knotsWhole_walk (A : Option Addr) (c : Nat) (g : List (List Int)) (W : World) (hg : RdG W (Lt W.heap.size) A g) (lc : g.length ≤ c) (cm : c ≤ maxLen) :
    Calls Try.prog 5 #[.slice A g.length c] W (RetTrue W) := by
  have hmax : maxLen ≤ 9223372036854775807 := by simp [maxLen]
  have HFW : Hid (∀ w1, Fr No W w1 → Calls Try.prog 10 #[.slice A g.length c, .int .i64 100] w1 (FewR w1 (Lt W.heap.size) g 100)) := Lib.hid (fun w1 h1 => few_any w1 (Lt W.heap.size) A c 100 g (hg.no h1) (by omega) (by omega))
  have HLV := Lib.hid (lives13 W)
  clear hg lc cm hmax
  go_enter Try.func5, Try.ntmps5
  go_upto_region 4 with (first
    | (go_at_call 9; (with_reducible refine HLV.out.mono ?_); rintro _ w1 ⟨rfl, hf1⟩; have HF1 := Lib.hid hf1; clear hf1)
    | (go_at_call 10; (with_reducible refine (HFW.out _ HF1.out).mono ?_); rintro _ w2 ⟨B, d, rfl, hg2, hf2⟩; have HG2 := Lib.hid hg2; have HF2 := Lib.hid (HF1.out.trans hf2); clear hg2 hf2))
  have hn100 : (fewG g 100).length ≤ 100 := by rw [fewG_len]; omega
  have hm20 : ∀ L ∈ fewG g 100, L.length ≤ 20 := fewG_row
  generalize fewG g 100 = G at *
  generalize hgn : G.length = n at *
  have HM20 := Lib.hid hm20
  have HGN := Lib.hid hgn
  have HKA : Hid (Calls Try.prog 11 #[.slice B n d] w2 (KnR w2 G)) := Lib.hid (by
    have h := knots_any w2 _ B d 20 G HG2.out (by rw [HGN.out]; omega) HM20.out (by omega) (by rw [HGN.out]; omega)
    rw [HGN.out] at h; exact h)
  have hmk1 := fun W => run_make1 (P := Try.prog) elI zeroI rfl .i64 .i64 n (by omega) (by simp only [maxLen]; omega) W
  clear hgn hm20
  go_upto_block 0 with (go_at_call 11; (with_reducible refine HKA.out.mono ?_); rintro _ w3 ⟨L, Aa, ca, rfl, p1, p2, p3, p4, p5⟩; have HWH := Lib.hid (whole_of p1); have HA2 := Lib.hid p2; have HF3 := Lib.hid p5; have hlA := Nat.le_trans p3 p4; clear p1 p2 p3 p4 p5)
  have HLn : Hid (L.length ≤ n) := Lib.hid (by
    have h1 := HWH.out
    have h2 := cn_last h1
    rw [HGN.out] at h2
    rw [← h2]
    exact cn_ge h1 L.length (Nat.le_refl _))
  have hLn := HLn.out
  obtain ⟨ab, hab⟩ : ∃ ab, ab = w3.heap.size := ⟨_, rfl⟩
  have HW0 : Hid (WoS L n ab w3 0 0 (w3.alloc (.cells (zrow n (.int .i64 0)).toArray 3))) := Lib.hid ⟨by
    rw [ns_congr (fun k _ => sn_zero L k), ns_zero, hab]
    exact zrow_own (Blk.new w3 _ _) (by omega), (Fr.refl _ _).alloc _⟩
  have HAB := Lib.hid hab
  rw [← hab]
  clear hab hmk1 hlA
  generalize w3.alloc (.cells (zrow n (.int .i64 0)).toArray 3) = w4 at *
  go_cut [4, 5] (fun a4 a5 wx => a4 = .slice (some ⟨ab, 0, none⟩) n n ∧ a5 = .int .i64 (n : Int) ∧ WoS L n ab w3 L.length 0 wx)
  case first =>
    go_wp2
    go_loopw [5, 6] (fun nv iv wr => ∃ i : Nat, iv = .int .i64 (i : Int) ∧ nv = .int .i64 (cn L i : Int) ∧ i ≤ L.length ∧ WoS L n ab w3 i 0 wr) (fun _ iv _ => L.length - (intOf iv).toNat)
    case atStart => exact ⟨0, rfl, by unfold cn; rfl, Nat.zero_le _, HW0.out⟩
    case round =>
      obtain ⟨i, rfl, rfl, hi, hw⟩ := hrel
      have HWI := Lib.hid hw
      clear hw
      by_cases hil : i < L.length
      · have hilI : (i : Int) < (L.length : Int) := by omega
        obtain ⟨ad, A1, c1, rfl, t1, t2, _⟩ := HA2.out.at_ i (by rw [List.length_map]; exact hil)
        rw [List.getElem_map, il_len] at t1 t2
        obtain ⟨K, hK⟩ : ∃ K, K = L[i] := ⟨_, rfl⟩
        rw [← hK] at t1 t2
        have HKK : Hid (K = L[i]) := Lib.hid hK
        have HT1 := Lib.hid (fun (w : World) (h : Fr No w3 w) => And.intro (h.cell_some t1 (fun h => h)) (t2.no_ h))
        obtain ⟨i1, hi1⟩ : ∃ i1, i1 = i + 1 := ⟨_, rfl⟩
        have hwi : wrap64 ((i : Int) + 1) = (i1 : Int) := w1000 hi1 (by omega)
        have HI1 := Lib.hid hi1
        obtain ⟨s, hs⟩ : ∃ s, s = cn L i := ⟨_, rfl⟩
        have HS := Lib.hid hs
        have hc1 := (HT1.out wr HWI.out.2).1
        have HCL : Hid (s + K.length ≤ n) := Lib.hid (by
          have h1 := cn_le HWH.out (i + 1)
          rw [cn_next hil, HGN.out] at h1
          rw [hs, hK]; exact h1)
        rw [← hs]
        clear t1 t2 hi1 hK hs
        go_wp2
        generalize wr = wo at *
        go_loopw [5, 7] (fun nv kv wr => ∃ k : Nat, kv = .int .i64 (k : Int) ∧ nv = .int .i64 ((s + k : Nat) : Int) ∧ k ≤ K.length ∧ WoS L n ab w3 i k wr) (fun _ kv _ => K.length - (intOf kv).toNat)
        case atStart => exact ⟨0, rfl, rfl, Nat.zero_le _, HWI.out⟩
        case round =>
          obtain ⟨k, rfl, rfl, hk, hw⟩ := hrel
          have HWK := Lib.hid hw
          obtain ⟨hcA, hrA⟩ := HT1.out wr hw.2
          by_cases hkl : k < K.length
          · have hklI : (k : Int) < (K.length : Int) := by omega
            have HKL := Lib.hid hkl
            obtain ⟨ad2, u, rfl, _, hu, hxc⟩ := hrA.at_ (k := k) hkl
            rw [il_at _ k hkl] at hu
            injection hu with hu
            subst hu
            have HPN : Hid (K[k] < n) := Lib.hid (by
              have h1 := HWH.out.lt K (by rw [HKK.out]; exact List.getElem_mem hil) _ (List.getElem_mem hkl)
              rw [HGN.out] at h1; exact h1)
            have HP0 : Hid (sn L i k K[k] = 0) := Lib.hid (by
              have e := HKK.out
              subst e
              exact sn_fresh HWH.out hil hkl)
            have HPU : Hid (ns (upN (sn L i k) K[k] (i + 1)) n = ns (sn L i (k + 1)) n) := Lib.hid (ns_congr fun q _ => by
              have e := HKK.out
              subst e
              rw [sn_put HWH.out hil hkl]
              unfold upN
              rfl)
            have HUP : Hid (∀ k0, k = k0 + 1 → ∀ (h : k0 < K.length), K[k0] < K[k]) := Lib.hid (fun k0 e h => by
              have h1 := HWH.out.up K (by rw [HKK.out]; exact List.getElem_mem hil)
              exact List.pairwise_iff_getElem.1 h1 k0 k h hkl (by omega))
            have hfno : ∀ v, Fr No w3 (wr.setCell ⟨ab, K[k], none⟩ v) := fun v => hw.2.trans' (fr_set _ ab _ v) fun t ht hlt => by
              have ht : t = ab := ht
              have h1 := HAB.out
              omega
            have HFN := Lib.hid hfno
            have hpn := HPN.out
            obtain ⟨o1, z0, z1⟩ := own_put HWK.out.1 K[k] (by rw [ns_len]; exact hpn) (.int .i64 (i1 : Int))
            rw [ns_at _ _ _ hpn, HP0.out] at z0
            rw [HI1.out, ns_set _ _ _ _ hpn, HPU.out, ← HI1.out] at o1
            have HO1 := Lib.hid o1
            have HPREV : Hid (∀ k0, k = k0 + 1 → ∃ y : Nat, y < K[k] ∧ wr.cell? (ad2.add k0) = some (.int .i64 (y : Int))) := Lib.hid (fun k0 e => by
              have h0 : k0 < K.length := by omega
              obtain ⟨ad3, u3, e3, _, hu3, hx3⟩ := hrA.at_ (k := k0) h0
              injection e3 with e3
              subst e3
              rw [il_at _ k0 h0] at hu3
              injection hu3 with hu3
              subst hu3
              exact ⟨_, HUP.out k0 e h0, hx3⟩)
            clear HPU HUP HP0 hfno o1 hw hrA
            generalize K[k] = p at *
            have hpI : (p : Int) < (n : Int) := by omega
            have hp0 : ¬ (p : Int) < 0 := by omega
            have hmc := HCL.out
            have hk9 : k ≤ 1000 := by omega
            have hm9 : s + k ≤ 1000 := by omega
            clear hmc
            obtain ⟨k1, hk1⟩ : ∃ k1, k1 = k + 1 := ⟨_, rfl⟩
            have hwk : wrap64 ((k : Int) + 1) = (k1 : Int) := w1000 hk1 hk9
            have HK1 := Lib.hid hk1
            have HM1 : Hid (s + k + 1 = s + k1) := Lib.hid (by rw [hk1]; rfl)
            obtain ⟨m, hm⟩ : ∃ m, m = s + k := ⟨_, rfl⟩
            rw [← hm] at hm9 HM1 ⊢
            obtain ⟨m1, hm1⟩ : ∃ m1, m1 = m + 1 := ⟨_, rfl⟩
            rw [← hm1] at HM1
            have hwm : wrap64 ((m : Int) + 1) = (m1 : Int) := w1000 hm1 hm9
            have HMM := Lib.hid hm1
            clear hk1 hm1 hm
            rcases Nat.eq_zero_or_pos k with hz | hz
            · have hkz : ¬ (k : Int) > 0 := by omega
              clear hz
              go_wp2
              go_roundw
              case measure =>
                first
                  | (show K.length - (intOf (Value.int .i64 (wrap64 ((k : Int) + 1)))).toNat < K.length - (intOf (Value.int .i64 (k : Int))).toNat; rw [hwk]; exact num_lt hkl HK1.out)
                  | (show K.length - (intOf (Value.int .i64 ((k : Int) + 1))).toNat < K.length - (intOf (Value.int .i64 (k : Int))).toNat; exact num_lt hkl rfl)
              case rel => exact ⟨k1, by first | rw [hwk] | (rw [HK1.out]; rfl), by first | (rw [hwm, HM1.out]) | (rw [← HM1.out, HMM.out]; rfl), by rw [HK1.out]; exact hkl, by rw [HK1.out]; first | exact HO1.out | (have h9 := HO1.out; rw [HI1.out] at h9; exact h9), HFN.out _⟩
            · obtain ⟨k0, hk0⟩ : ∃ k0, k = k0 + 1 := ⟨k - 1, by omega⟩
              obtain ⟨y, hy, hyc⟩ := HPREV.out k0 hk0
              have hyI : ¬ (y : Int) ≥ (p : Int) := by omega
              have hkp : (k : Int) > 0 := by omega
              have hw0 : wrap64 ((k : Int) - 1) = (k0 : Int) := by
                rw [hk0]; exact w_pred k0 (by omega)
              have hw1 : (k : Int) - 1 = (k0 : Int) := by omega
              have hk0K : k0 < K.length := by omega
              have hk0I : (k0 : Int) < (K.length : Int) := by omega
              clear hk0 hz
              go_wp2
              go_roundw
              case measure =>
                first
                  | (show K.length - (intOf (Value.int .i64 (wrap64 ((k : Int) + 1)))).toNat < K.length - (intOf (Value.int .i64 (k : Int))).toNat; rw [hwk]; exact num_lt hkl HK1.out)
                  | (show K.length - (intOf (Value.int .i64 ((k : Int) + 1))).toNat < K.length - (intOf (Value.int .i64 (k : Int))).toNat; exact num_lt hkl rfl)
              case rel => exact ⟨k1, by first | rw [hwk] | (rw [HK1.out]; rfl), by first | (rw [hwm, HM1.out]) | (rw [← HM1.out, HMM.out]; rfl), by rw [HK1.out]; exact hkl, by rw [HK1.out]; first | exact HO1.out | (have h9 := HO1.out; rw [HI1.out] at h9; exact h9), HFN.out _⟩
          · have hklI : ¬ (k : Int) < (K.length : Int) := by omega
            have hke : k = K.length := by omega
            have HNX : Hid (WoS L n ab w3 i1 0 wr ∧ s + k = cn L i1) := Lib.hid (by
              have e := HKK.out
              rw [HI1.out, cn_next hil, HS.out, hke, e]
              refine ⟨⟨?_, hw.2⟩, rfl⟩
              rw [ns_congr (fun p _ => sn_next HWH.out hil p), ← e, ← hke]
              exact hw.1)
            obtain ⟨m, hm⟩ : ∃ m, m = s + k := ⟨_, rfl⟩
            rw [← hm] at HNX ⊢
            clear hw hke hm hrA
            go_wp2
            go_roundw
            case measure =>
              first
                | (show L.length - (intOf (Value.int .i64 (wrap64 ((i : Int) + 1)))).toNat < L.length - (intOf (Value.int .i64 (i : Int))).toNat; rw [hwi]; exact num_lt hil HI1.out)
                | (show L.length - (intOf (Value.int .i64 ((i : Int) + 1))).toNat < L.length - (intOf (Value.int .i64 (i : Int))).toNat; exact num_lt hil rfl)
            case rel => exact ⟨i1, by first | rw [hwi] | (rw [HI1.out]; rfl), by rw [HNX.out.2], by rw [HI1.out]; exact hil, HNX.out.1⟩
      · have hilI : ¬ (i : Int) < (L.length : Int) := by omega
        have hie : i = L.length := by omega
        have HFI : Hid (cn L i = n ∧ WoS L n ab w3 L.length 0 wr) := Lib.hid (by
          refine ⟨?_, ?_⟩
          · rw [hie, cn_last HWH.out, HGN.out]
          · rw [← hie]; exact HWI.out)
        clear hie
        go_wp2
        go_meet
        case rel => exact ⟨rfl, by rw [HFI.out.1], HFI.out.2⟩
  case rest =>
    obtain ⟨rfl, rfl, hw⟩ := hcut
    generalize wc = w5 at *
    have HOX : Hid (Own w5 3 1 (.slice (some ⟨ab, 0, none⟩) n n) n (ns (fun p => ix L p + 1) n)) := Lib.hid (by
      rw [← ns_congr (f := sn L L.length 0) (fun p hp => sn_last HWH.out (by rw [HGN.out]; exact hp))]
      exact hw.1)
    have HF5 : Hid (Fr No w3 w5) := Lib.hid hw.2
    clear hw HW0
    go_upto_block 4 with (fail)
    go_cut [5] (fun a5 wx => a5 = .int .i64 (n : Int) ∧ Fr No w5 wx)
    case first =>
      go_wp2
      go_loopw [9] (fun iv wr => ∃ i : Nat, iv = .int .i64 (i : Int) ∧ i ≤ n ∧ Fr No w5 wr) (fun iv _ => n - (intOf iv).toNat)
      case atStart => exact ⟨0, rfl, Nat.zero_le _, Fr.refl _ _⟩
      case round =>
        obtain ⟨i, rfl, hi, hf⟩ := hrel
        have HF := Lib.hid hf
        clear hf
        by_cases hil : i < n
        · have hilI : (i : Int) < (n : Int) := by omega
          have hiG : i < G.length := by rw [HGN.out]; exact hil
          obtain ⟨adB, Ar, cr, rfl, hc0, hr0, hl0, hm0⟩ := HG2.out.at_ i hiG
          rw [← gat_at hiG] at hc0 hr0 hl0
          have HROW := Lib.hid (fun (w : World) (h : Fr No w5 w) => And.intro ((HF3.out.trans (HF5.out.trans h)).cell_some hc0 (fun h => h)) (hr0.no_ (HF3.out.trans (HF5.out.trans h))))
          obtain ⟨m, hm⟩ : ∃ m, m = (gat G i).length := ⟨_, rfl⟩
          have hm20 : m ≤ 20 := by rw [hm]; exact gat_len HM20.out i
          rw [← hm] at HROW
          have HMM := Lib.hid hm
          obtain ⟨i1, hi1⟩ : ∃ i1, i1 = i + 1 := ⟨_, rfl⟩
          have hwi : wrap64 ((i : Int) + 1) = (i1 : Int) := w1000 hi1 (by omega)
          have HI1 := Lib.hid hi1
          have hcI := (HROW.out wr HF.out).1
          clear hc0 hr0 hl0 hm0 hm hi1
          go_wp2
          generalize wr = wo at *
          go_loopw [10] (fun jv wr => ∃ j : Nat, jv = .int .i64 (j : Int) ∧ j ≤ m ∧ Fr No w5 wr) (fun jv _ => m - (intOf jv).toNat)
          case atStart => exact ⟨0, rfl, Nat.zero_le _, HF.out⟩
          case round =>
            obtain ⟨j, rfl, hj, hfj⟩ := hrel
            have HFJ := Lib.hid hfj
            obtain ⟨hc1, hr1⟩ := HROW.out wr hfj
            by_cases hjl : j < m
            · have hjlI : (j : Int) < (m : Int) := by omega
              have hjg : j < (gat G i).length := by rw [← HMM.out]; exact hjl
              obtain ⟨ad, u, rfl, _, hu, hxc⟩ := hr1.at_ (k := j) hjl
              rw [is_at _ j hjg] at hu
              injection hu with hu
              subst hu
              have hxm : (gat G i)[j] ∈ gat G i := List.getElem_mem hjg
              obtain ⟨x, hx⟩ : ∃ x, x = (gat G i)[j] := ⟨_, rfl⟩
              rw [← hx] at hxc hxm
              obtain ⟨j1, hj1⟩ : ∃ j1, j1 = j + 1 := ⟨_, rfl⟩
              have hwj : wrap64 ((j : Int) + 1) = (j1 : Int) := w1000 hj1 (by omega)
              have HJ1 := Lib.hid hj1
              have HXM := Lib.hid hxm
              have hon := HOX.out.fr hfj (fun _ _ h => h)
              have hci := (own_put hon i (by rw [ns_len]; exact hil) (.bool true)).2.1
              rw [ns_at _ _ _ hil] at hci
              have HON := Lib.hid hon
              clear hr1 hj1 hx hjg hon hfj hxm
              by_cases hx0 : 0 ≤ x
              · by_cases hxn : x < (n : Int)
                · obtain ⟨t, rfl⟩ : ∃ t : Nat, x = (t : Int) := ⟨x.toNat, by omega⟩
                  have htn : t < n := by omega
                  have hct := (own_put HON.out t (by rw [ns_len]; exact htn) (.bool true)).2.1
                  rw [ns_at _ _ _ htn] at hct
                  have hle : ix L t ≤ ix L i := HWH.out.ord i t hiG (by rw [HGN.out]; exact htn) ((vtr G i t).2 (.one ((stp_iff G i t).2 ⟨hiG, by rw [HGN.out]; exact htn, HXM.out⟩)))
                  have hgt : ¬ ((ix L t + 1 : Nat) : Int) > ((ix L i + 1 : Nat) : Int) := by omega
                  generalize ix L t + 1 = at_ at *
                  generalize ix L i + 1 = ai_ at *
                  clear hle
                  go_wp2
                  go_quiet (fail)
                  all_goals
                    go_wp2
                    go_roundw
                    case measure =>
                      first
                        | (show m - (intOf (Value.int .i64 (wrap64 ((j : Int) + 1)))).toNat < m - (intOf (Value.int .i64 (j : Int))).toNat; rw [hwj]; exact num_lt hjl HJ1.out)
                        | (show m - (intOf (Value.int .i64 ((j : Int) + 1))).toNat < m - (intOf (Value.int .i64 (j : Int))).toNat; exact num_lt hjl rfl)
                  case rel => exact ⟨j1, by first | rw [hwj] | (rw [HJ1.out]; rfl), by rw [HJ1.out]; exact hjl, by first | exact HFJ.out | exact HFJ.out.drew | exact HFJ.out.drewN _⟩
                · generalize ix L i + 1 = ai_ at *
                  have hxb : decide (x < (n : Int)) = false := decide_eq_false hxn
                  have hx0b : decide (0 ≤ x) = true := decide_eq_true hx0
                  go_wp2
                  go_quiet (fail)
                  all_goals
                    go_wp2
                    go_roundw
                    case measure =>
                      first
                        | (show m - (intOf (Value.int .i64 (wrap64 ((j : Int) + 1)))).toNat < m - (intOf (Value.int .i64 (j : Int))).toNat; rw [hwj]; exact num_lt hjl HJ1.out)
                        | (show m - (intOf (Value.int .i64 ((j : Int) + 1))).toNat < m - (intOf (Value.int .i64 (j : Int))).toNat; exact num_lt hjl rfl)
                  case rel => exact ⟨j1, by first | rw [hwj] | (rw [HJ1.out]; rfl), by rw [HJ1.out]; exact hjl, by first | exact HFJ.out | exact HFJ.out.drew | exact HFJ.out.drewN _⟩
              · generalize ix L i + 1 = ai_ at *
                have hxb : decide (0 ≤ x) = false := decide_eq_false hx0
                go_wp2
                go_quiet (fail)
                all_goals
                  go_wp2
                  go_roundw
                  case measure =>
                    first
                      | (show m - (intOf (Value.int .i64 (wrap64 ((j : Int) + 1)))).toNat < m - (intOf (Value.int .i64 (j : Int))).toNat; rw [hwj]; exact num_lt hjl HJ1.out)
                      | (show m - (intOf (Value.int .i64 ((j : Int) + 1))).toNat < m - (intOf (Value.int .i64 (j : Int))).toNat; exact num_lt hjl rfl)
                case rel => exact ⟨j1, by first | rw [hwj] | (rw [HJ1.out]; rfl), by rw [HJ1.out]; exact hjl, by first | exact HFJ.out | exact HFJ.out.drew | exact HFJ.out.drewN _⟩
            · have hjlI : ¬ (j : Int) < (m : Int) := by omega
              clear hfj hr1
              go_wp2
              go_roundw
              case measure =>
                first
                  | (show n - (intOf (Value.int .i64 (wrap64 ((i : Int) + 1)))).toNat < n - (intOf (Value.int .i64 (i : Int))).toNat; rw [hwi]; exact num_lt hil HI1.out)
                  | (show n - (intOf (Value.int .i64 ((i : Int) + 1))).toNat < n - (intOf (Value.int .i64 (i : Int))).toNat; exact num_lt hil rfl)
              case rel => exact ⟨i1, by first | rw [hwi] | (rw [HI1.out]; rfl), by rw [HI1.out]; exact hil, HFJ.out⟩
        · have hilI : ¬ (i : Int) < (n : Int) := by omega
          go_wp2
          go_meet
          case rel => exact ⟨rfl, HF.out⟩
    case rest =>
      obtain ⟨rfl, hf6⟩ := hcut
      generalize wc = w6 at *
      have HFA : Hid (Fr No w3 w6) := Lib.hid (HF5.out.trans hf6)
      have HRE : Hid (∀ w, Fr No w3 w → ∀ y : Int, Calls Try.prog 16 #[.slice B n d, .int .i64 y] w (RetX w (reachX G y))) := Lib.hid (fun w h y => by
        have h := reach_any w _ B d G y (HG2.out.no (HF3.out.trans h)) (by rw [HGN.out]; omega) (fun L hL => Nat.le_trans (HM20.out L hL) (by omega))
        rw [HGN.out] at h; exact h)
      clear hf6
      go_wp2
      go_loopw [12] (fun iv wr => ∃ i : Nat, iv = .int .i64 (i : Int) ∧ i ≤ L.length ∧ Fr No w3 wr) (fun iv _ => L.length - (intOf iv).toNat)
      case atStart => exact ⟨0, rfl, Nat.zero_le _, HFA.out⟩
      case round =>
        obtain ⟨i, rfl, hi, hf⟩ := hrel
        have HF := Lib.hid hf
        clear hf
        by_cases hil : i < L.length
        · have hilI : (i : Int) < (L.length : Int) := by omega
          obtain ⟨ad, A1, c1, rfl, t1, t2, _⟩ := HA2.out.at_ i (by rw [List.length_map]; exact hil)
          rw [List.getElem_map, il_len] at t1 t2
          have HKM : Hid (L[i] ∈ L) := Lib.hid (List.getElem_mem hil)
          have hKn : 0 < (L[i]).length := List.length_pos_iff.2 (HWH.out.ne _ (List.getElem_mem hil))
          generalize L[i] = K at *
          have HT1 := Lib.hid (fun (w : World) (h : Fr No w3 w) => And.intro (h.cell_some t1 (fun h => h)) (t2.no_ h))
          obtain ⟨adk, u, rfl, _, hu, hx0⟩ := (HT1.out wr HF.out).2.at_ (k := 0) hKn
          have hcI := (HT1.out wr HF.out).1
          rw [il_at _ 0 hKn] at hu
          injection hu with hu
          subst hu
          have hadd : adk.add 0 = adk := by unfold Addr.add; rfl
          rw [hadd] at hx0
          have HRY := Lib.hid (HRE.out wr HF.out (K[0] : Int))
          obtain ⟨i1, hi1⟩ : ∃ i1, i1 = i + 1 := ⟨_, rfl⟩
          have hwi : wrap64 ((i : Int) + 1) = (i1 : Int) := w1000 hi1 (by omega)
          have HI1 := Lib.hid hi1
          have hKnI : (0 : Int) < (K.length : Int) := by omega
          clear t1 t2 hi1 hadd
          go_wp2_with (go_at_call 16; (with_reducible refine HRY.out.mono ?_); rintro _ w8 ⟨Lr, p1, p2, v8, rfl, p3, p4, p5⟩; obtain ⟨Ar, cr, rfl, hc8, hm8⟩ := p3.form; have f8 := fr_at_none p4; have HF8 := Lib.hid (HF.out.trans f8); have HR2 := Lib.hid p2; have HR3 := Lib.hid p3; have hlR : Lr.length ≤ n := retx_len p1 (fun y hy => by obtain ⟨a, b, _, rfl, ht⟩ := (reachX_iff G _ y).1 ((p2 y).1 hy); have h9 := ((reachR G).lt a b ((vtr G a b).2 ht)).2; rw [HGN.out] at h9; omega); clear p1 p2 p3 p4 p5 f8 hc8 hm8)
          have HX0 : Hid (∀ w, Fr No w3 w → w.cell? adk = some (.int .i64 (K[0] : Int))) := Lib.hid (fun w h => by
            obtain ⟨ad3, u3, e3, _, hu3, hx3⟩ := (HT1.out w h).2.at_ (k := 0) hKn
            injection e3 with e3
            subst e3
            rw [il_at _ 0 hKn] at hu3
            injection hu3 with hu3
            subst hu3
            have hadd : adk.add 0 = adk := by unfold Addr.add; rfl
            rw [hadd] at hx3
            exact hx3)
          have HK1000 : Hid (K.length ≤ 1000) := Lib.hid (by
            have h1 := retx_len (n := n) (L := il K) (List.pairwise_map.2 ((HWH.out.up K HKM.out).imp fun h => by omega)) (fun x hx => by
              obtain ⟨y, hy, rfl⟩ := List.mem_map.1 hx
              have := HWH.out.lt K HKM.out y hy
              rw [HGN.out] at this
              omega)
            rw [il_len] at h1
            omega)
          clear hx0 hcI
          generalize wr = wo at *
          go_loopw [14] (fun kv wr => ∃ k : Nat, kv = .int .i64 (k : Int) ∧ 1 ≤ k ∧ k ≤ K.length ∧ Fr No w8 wr) (fun kv _ => K.length - (intOf kv).toNat)
          case atStart => exact ⟨1, rfl, Nat.le_refl _, hKn, Fr.refl _ _⟩
          case round =>
            obtain ⟨k, rfl, hk1, hk, hfk⟩ := hrel
            have HFK := Lib.hid hfk
            obtain ⟨hcA, hrA⟩ := HT1.out wr (HF8.out.trans hfk)
            by_cases hkl : k < K.length
            · have hklI : (k : Int) < (K.length : Int) := by omega
              have HXZ : Hid (∀ w, Fr No w3 w → w.cell? (adk.add k) = some (.int .i64 (K[k] : Int))) := Lib.hid (fun w h => by
                obtain ⟨ad3, u3, e3, _, hu3, hx3⟩ := (HT1.out w h).2.at_ (k := k) hkl
                injection e3 with e3
                subst e3
                rw [il_at _ k hkl] at hu3
                injection hu3 with hu3
                subst hu3
                exact hx3)
              have hne : K[0] ≠ K[k] := fun e => by
                have h1 := List.pairwise_iff_getElem.1 (HWH.out.up K HKM.out) 0 k hKn hkl (by omega)
                omega
              have HIA : Hid (reachX G (K[0] : Int) (K[k] : Int)) := Lib.hid ((reachX_iff G _ _).2 ⟨_, _, rfl, rfl, (vtr G _ _).1 (HWH.out.two K HKM.out _ (List.getElem_mem hKn) _ (List.getElem_mem hkl) hne)⟩)
              have HIB : Hid (reachX G (K[k] : Int) (K[0] : Int)) := Lib.hid ((reachX_iff G _ _).2 ⟨_, _, rfl, rfl, (vtr G _ _).1 (HWH.out.two K HKM.out _ (List.getElem_mem hkl) _ (List.getElem_mem hKn) hne.symm)⟩)
              have hk9 := HK1000.out
              have hk8 : k ≤ 1000 := by omega
              obtain ⟨k1, hk1'⟩ : ∃ k1, k1 = k + 1 := ⟨_, rfl⟩
              have hwk : wrap64 ((k : Int) + 1) = (k1 : Int) := w1000 hk1' hk8
              have HK1 := Lib.hid hk1'
              clear hne hk9 hk1' hrA hfk
              generalize K[k] = z at *
              go_wp2
              generalize wr = wp at *
              go_loopw [15, 16] (fun tv mv wr => ∃ (m : Nat) (q : Bool), q = decide ((z : Int) ∈ Lr.take m) ∧ tv = .bool q ∧ mv = .int .i64 (m : Int) ∧ m ≤ Lr.length ∧ Fr No wp wr) (fun _ mv _ => Lr.length - (intOf mv).toNat)
              case atStart => exact ⟨0, false, by simp, rfl, rfl, Nat.zero_le _, Fr.refl _ _⟩
              case round =>
                obtain ⟨m, q, hq, rfl, rfl, hm, hfm⟩ := hrel
                have HQ := Lib.hid hq
                have HFM := Lib.hid hfm
                have hcM := (HT1.out wr ((HF8.out.trans HFK.out).trans hfm)).1
                have hxM := HXZ.out wr ((HF8.out.trans HFK.out).trans hfm)
                clear hq
                by_cases hml : m < Lr.length
                · have hmlI : (m : Int) < (Lr.length : Int) := by omega
                  obtain ⟨adm, u, rfl, _, hu, hcm⟩ := (HR3.out.rd.no_ (HFK.out.trans hfm)).at_ (k := m) hml
                  rw [is_at _ m hml] at hu
                  injection hu with hu
                  subst hu
                  obtain ⟨b, hb⟩ : ∃ b, b = (Lr[m] == (z : Int)) := ⟨_, rfl⟩
                  have hst : decide ((z : Int) ∈ Lr.take (m + 1)) = (q || b) := by
                    rw [List.take_succ_eq_append_getElem hml, HQ.out, hb, Bool.eq_iff_iff]
                    simp only [List.mem_append, List.mem_singleton, decide_eq_true_iff, Bool.or_eq_true, beq_iff_eq]
                    constructor
                    · rintro (h | h)
                      · exact .inl h
                      · exact .inr h.symm
                    · rintro (h | h)
                      · exact .inl h
                      · exact .inr h.symm
                  have HST := Lib.hid hst
                  generalize Lr[m] = y at *
                  have hbe : (y == (z : Int)) = b := hb.symm
                  obtain ⟨m1, hm1⟩ : ∃ m1, m1 = m + 1 := ⟨_, rfl⟩
                  have hwm : wrap64 ((m : Int) + 1) = (m1 : Int) := w1000 hm1 (by omega)
                  have HM1 := Lib.hid hm1
                  clear hb hst hm1 hfm
                  cases q with
                  | true =>
                    go_wp2
                    (try go_quiet (fail))
                    all_goals
                      go_wp2
                      go_roundw
                      case measure =>
                        first
                          | (show Lr.length - (intOf (Value.int .i64 (wrap64 ((m : Int) + 1)))).toNat < Lr.length - (intOf (Value.int .i64 (m : Int))).toNat; rw [hwm]; exact num_lt hml HM1.out)
                          | (show Lr.length - (intOf (Value.int .i64 ((m : Int) + 1))).toNat < Lr.length - (intOf (Value.int .i64 (m : Int))).toNat; exact num_lt hml rfl)
                      case rel => exact ⟨m1, true, by rw [HM1.out, HST.out]; rfl, rfl, by first | rw [hwm] | (rw [HM1.out]; rfl), by rw [HM1.out]; exact hml, by first | exact HFM.out | exact HFM.out.drew | exact HFM.out.drewN _⟩
                  | false =>
                    go_wp2
                    (try go_quiet (fail))
                    all_goals
                      go_wp2
                      go_roundw
                      case measure =>
                        first
                          | (show Lr.length - (intOf (Value.int .i64 (wrap64 ((m : Int) + 1)))).toNat < Lr.length - (intOf (Value.int .i64 (m : Int))).toNat; rw [hwm]; exact num_lt hml HM1.out)
                          | (show Lr.length - (intOf (Value.int .i64 ((m : Int) + 1))).toNat < Lr.length - (intOf (Value.int .i64 (m : Int))).toNat; exact num_lt hml rfl)
                      case rel => exact ⟨m1, b, by rw [HM1.out, HST.out]; rfl, by first | rfl | rw [hbe], by first | rw [hwm] | (rw [HM1.out]; rfl), by rw [HM1.out]; exact hml, by first | exact HFM.out | exact HFM.out.drew | exact HFM.out.drewN _⟩
                · have hmlI : ¬ (m : Int) < (Lr.length : Int) := by omega
                  have hqt : q = true := by
                    rw [HQ.out, show m = Lr.length by omega, List.take_length]
                    exact decide_eq_true ((HR2.out _).2 HIA.out)
                  subst hqt
                  clear hfm
                  have HRZ := Lib.hid (HRE.out wr (HF8.out.trans (HFK.out.trans HFM.out)) (z : Int))
                  have HFMM := Lib.hid (HFK.out.trans HFM.out)
                  go_wp2_with (go_at_call 16; (with_reducible refine HRZ.out.mono ?_); rintro _ w9 ⟨Lm, p1, p2, v9, rfl, p3, p4, p5⟩; obtain ⟨Am, cm, rfl, hc9, hm9⟩ := p3.form; have f9 := fr_at_none p4; have HF9 := Lib.hid (HFMM.out.trans f9); have HM2 := Lib.hid p2; have HM3 := Lib.hid p3; have hlM : Lm.length ≤ n := retx_len p1 (fun y hy => by obtain ⟨a, b, _, rfl, ht⟩ := (reachX_iff G _ y).1 ((p2 y).1 hy); have h9 := ((reachR G).lt a b ((vtr G a b).2 ht)).2; rw [HGN.out] at h9; omega); clear p1 p2 p3 p4 p5 f9 hc9 hm9)
                  clear hcM hxM
                  generalize wr = wq at *
                  go_loopw [18, 19] (fun tv mv wr => ∃ (m : Nat) (q : Bool), q = decide ((K[0] : Int) ∈ Lm.take m) ∧ tv = .bool q ∧ mv = .int .i64 (m : Int) ∧ m ≤ Lm.length ∧ Fr No w9 wr) (fun _ mv _ => Lm.length - (intOf mv).toNat)
                  case atStart => exact ⟨0, false, by simp, rfl, rfl, Nat.zero_le _, Fr.refl _ _⟩
                  case round =>
                    obtain ⟨m, q, hq, rfl, rfl, hm, hfm⟩ := hrel
                    have HQ := Lib.hid hq
                    have HFM := Lib.hid hfm
                    have hcM := (HT1.out wr ((HF8.out.trans HF9.out).trans hfm)).1
                    have hxM := HX0.out wr ((HF8.out.trans HF9.out).trans hfm)
                    clear hq
                    by_cases hml : m < Lm.length
                    · have hmlI : (m : Int) < (Lm.length : Int) := by omega
                      obtain ⟨adm, u, rfl, _, hu, hcm⟩ := (HM3.out.rd.no_ hfm).at_ (k := m) hml
                      rw [is_at _ m hml] at hu
                      injection hu with hu
                      subst hu
                      obtain ⟨b, hb⟩ : ∃ b, b = (Lm[m] == (K[0] : Int)) := ⟨_, rfl⟩
                      have hst : decide ((K[0] : Int) ∈ Lm.take (m + 1)) = (q || b) := by
                        rw [List.take_succ_eq_append_getElem hml, HQ.out, hb, Bool.eq_iff_iff]
                        simp only [List.mem_append, List.mem_singleton, decide_eq_true_iff, Bool.or_eq_true, beq_iff_eq]
                        constructor
                        · rintro (h | h)
                          · exact .inl h
                          · exact .inr h.symm
                        · rintro (h | h)
                          · exact .inl h
                          · exact .inr h.symm
                      have HST := Lib.hid hst
                      generalize Lm[m] = y at *
                      have hbe : (y == (K[0] : Int)) = b := hb.symm
                      obtain ⟨m1, hm1⟩ : ∃ m1, m1 = m + 1 := ⟨_, rfl⟩
                      have hwm : wrap64 ((m : Int) + 1) = (m1 : Int) := w1000 hm1 (by omega)
                      have HM1 := Lib.hid hm1
                      clear hb hst hm1 hfm
                      cases q with
                      | true =>
                        go_wp2
                        (try go_quiet (fail))
                        all_goals
                          go_wp2
                          go_roundw
                          case measure =>
                            first
                              | (show Lm.length - (intOf (Value.int .i64 (wrap64 ((m : Int) + 1)))).toNat < Lm.length - (intOf (Value.int .i64 (m : Int))).toNat; rw [hwm]; exact num_lt hml HM1.out)
                              | (show Lm.length - (intOf (Value.int .i64 ((m : Int) + 1))).toNat < Lm.length - (intOf (Value.int .i64 (m : Int))).toNat; exact num_lt hml rfl)
                          case rel => exact ⟨m1, true, by rw [HM1.out, HST.out]; rfl, rfl, by first | rw [hwm] | (rw [HM1.out]; rfl), by rw [HM1.out]; exact hml, by first | exact HFM.out | exact HFM.out.drew | exact HFM.out.drewN _⟩
                      | false =>
                        go_wp2
                        (try go_quiet (fail))
                        all_goals
                          go_wp2
                          go_roundw
                          case measure =>
                            first
                              | (show Lm.length - (intOf (Value.int .i64 (wrap64 ((m : Int) + 1)))).toNat < Lm.length - (intOf (Value.int .i64 (m : Int))).toNat; rw [hwm]; exact num_lt hml HM1.out)
                              | (show Lm.length - (intOf (Value.int .i64 ((m : Int) + 1))).toNat < Lm.length - (intOf (Value.int .i64 (m : Int))).toNat; exact num_lt hml rfl)
                          case rel => exact ⟨m1, b, by rw [HM1.out, HST.out]; rfl, by first | rfl | rw [hbe], by first | rw [hwm] | (rw [HM1.out]; rfl), by rw [HM1.out]; exact hml, by first | exact HFM.out | exact HFM.out.drew | exact HFM.out.drewN _⟩
                    · have hmlI : ¬ (m : Int) < (Lm.length : Int) := by omega
                      have hqt : q = true := by
                        rw [HQ.out, show m = Lm.length by omega, List.take_length]
                        exact decide_eq_true ((HM2.out _).2 HIB.out)
                      subst hqt
                      clear hfm
                      clear hcM
                      go_wp2
                      go_roundw
                      case measure =>
                        first
                          | (show K.length - (intOf (Value.int .i64 (wrap64 ((k : Int) + 1)))).toNat < K.length - (intOf (Value.int .i64 (k : Int))).toNat; rw [hwk]; exact num_lt hkl HK1.out)
                          | (show K.length - (intOf (Value.int .i64 ((k : Int) + 1))).toNat < K.length - (intOf (Value.int .i64 (k : Int))).toNat; exact num_lt hkl rfl)
                      case rel => exact ⟨k1, by first | rw [hwk] | (rw [HK1.out]; rfl), by rw [HK1.out]; omega, by rw [HK1.out]; exact hkl, HF9.out.trans HFM.out⟩
            · have hklI : ¬ (k : Int) < (K.length : Int) := by omega
              clear hrA hfk
              go_wp2
              go_roundw
              case measure =>
                first
                  | (show L.length - (intOf (Value.int .i64 (wrap64 ((i : Int) + 1)))).toNat < L.length - (intOf (Value.int .i64 (i : Int))).toNat; rw [hwi]; exact num_lt hil HI1.out)
                  | (show L.length - (intOf (Value.int .i64 ((i : Int) + 1))).toNat < L.length - (intOf (Value.int .i64 (i : Int))).toNat; exact num_lt hil rfl)
              case rel => exact ⟨i1, by first | rw [hwi] | (rw [HI1.out]; rfl), by rw [HI1.out]; exact hil, HF8.out.trans HFK.out⟩
        · have hilI : ¬ (i : Int) < (L.length : Int) := by omega
          go_wp2
          go_ret
          exact ⟨rfl, (((HF2.out.trans HF3.out).trans HF.out)).belowNo⟩
end Go.Proofs.Ytcjofakhefpfdaa
