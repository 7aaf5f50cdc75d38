/- VoucherWeighs' walk. -/
import Derived.Test.YtpaeohmoecdniabVouLg
import Derived.Test.YtpaeohmoecdniabVouW
import Derived.Deep.DeepCutAuto
namespace Go.Proofs.Ytpaeohmoecdniab
open Go.RowKit Go.My Go.Maps
set_option linter.unusedSimpArgs false
set_option linter.unusedVariables false
attribute [local go_sem ↓] Go.wp_at_zero Go.wp_at_succ

theorem wrap_add (a b : Int) : wrap64 (wrap64 a + b) = wrap64 (a + b) := by simp only [wrap64]; omega
theorem wrap_add' (a b : Int) : wrap64 (a + wrap64 b) = wrap64 (a + b) := by simp only [wrap64]; omega

theorem two_inj {a b c d : Int} (h : #[Value.int .i64 a, Value.int .i64 b] = #[Value.int .i64 c, Value.int .i64 d]) : a = c ∧ b = d := by
  injection h with h
  injection h with h1 h2
  injection h2 with h2
  injection h1 with _ h1
  injection h2 with _ h2
  exact ⟨h1, h2⟩
theorem wby0 (L : List Lg) (na : List UInt8) : wrap64 (byOf (L.take 0) na) = 0 := by
  have : byOf (L.take 0) na = 0 := rfl
  rw [this]
  exact IntWalk.wrap64_in _ (by omega)
def WgRel (w7 : World) (n : Nat) (iv : Value) (wr : World) : Prop := ∃ k j : Nat, k ≤ n ∧ iv = .int .i64 k ∧ wr = w7.drewN j
def WbRel (w7 : World) (L : List Lg) (nm : List UInt8) (by_ iv : Value) (wr : World) : Prop := ∃ k j : Nat, k ≤ L.length ∧ iv = .int .i64 k ∧ by_ = .int .i64 (wrap64 (byOf (L.take k) nm)) ∧ wr = w7.drewN j

set_option maxRecDepth 100000 in
set_option maxHeartbeats 0 in
theorem voucherWeighs_walk (A : Option Addr) (c : Nat) (cells : List Value) (T : List AcI) (B : Option Addr) (d : Nat) (cells2 : List Value) (L0 : List Lg) (w : World)
    (hr : Rd w (Lt w.heap.size) 4 A T.length cells) (hc : T.length ≤ c) (hcm : c ≤ maxLen) (hE : Each RdAc 4 cells T) (hr2 : Rd w (Lt w.heap.size) 2 B L0.length cells2) (hd : L0.length ≤ d) (hdm : d ≤ maxLen) (hE2 : Each RdLg 2 cells2 L0) :
    Calls Try.prog 5 #[.slice A T.length c, .slice B L0.length d] w (RetTrue w) := by
  obtain ⟨L, hLd, hL8, hLl, hrL, hEL, hokL⟩ := few_legs hr2 hd hE2
  have HRL := Lib.hid hrL
  have HEL := Lib.hid hEL
  have HAC : Hid (∀ W, Below w.heap.size w W → w.heap.size ≤ W.heap.size → Calls Try.prog 10 #[.slice A T.length c] W (MadeB W)) := fun W hW hs => accts_any A c cells T W ((hr.below hW fun _ h => h).more fun _ h => Nat.lt_of_lt_of_le h hs) hE hc hcm
  have HFW : Hid (∀ W, Calls Try.prog 11 #[.slice B L0.length d] W fun e w' => e = .returned (.slice B L.length d) ∧ W = w') := fun W => by
    have h := few_any B L0.length d W hd hdm
    rwa [← hLd] at h
  clear hr hE hr2 hE2 hrL hEL hokL hLd hd hdm hc hcm
  go_enter Try.func5, Try.ntmps5
  go_wp2_with fail
  refine (livesV _).mono ?_
  rintro e w1 ⟨rfl, hb1⟩
  have hs1 := hb1.size
  go_wp2_with fail
  refine (HAC.out _ hb1 hs1).mono ?_
  rintro e w2 ⟨p, m, q, S, rfl, hc2, hq2, hI2, hf2, hm2, _⟩
  have HB2 := Lib.hid (below_fr_no hb1 hf2 hs1)
  have HC2 := Lib.hid hc2
  have HI2 := Lib.hid hI2
  have hs2 := hf2.size
  have hmw : w.heap.size ≤ m := by omega
  clear hb1 hc2 hq2 hI2 hf2
  go_wp2_with fail
  refine (HFW.out _).mono ?_
  rintro e w3 ⟨rfl, rfl⟩
  have HA1 := Lib.hid (all_any p m S w2 HC2.out HI2.out.nm HI2.out.len)
  go_wp2_with fail
  refine HA1.out.mono ?_
  rintro e w4 ⟨v4, rfl, ho4, hf4', hn4⟩
  obtain ⟨A4, c4, rfl, _, _⟩ := ho4.form
  have hf4 := fr_at_none hf4'
  have HO4 := Lib.hid ho4
  have HF4 := Lib.hid hf4
  have HN4 := Lib.hid (newer_none hn4)
  have HT1 := Lib.hid (tot_any p m S w4 (HC2.out.no hf4) HI2.out)
  clear ho4 hf4' hf4 hn4 HA1
  obtain ⟨tv, te, htt⟩ : ∃ tv te, two64 (total (hvs S)) = .tuple #[.int .i64 tv, .int .i64 te] := ⟨_, _, rfl⟩
  rw [htt] at HT1
  go_wp2_with fail
  refine HT1.out.mono ?_
  rintro e w5 ⟨rfl, hf5⟩
  have HF5 := Lib.hid (HF4.out.trans hf5)
  have H45 := Lib.hid hf5
  have hs5 := HF5.out.size
  have HMK : Hid (∀ c', Calls Try.prog 16 #[.pointer (some ⟨p, 0, none⟩), .slice B L.length c'] w5 (DeedsE p m (checkE S L) (makeS S L) w5)) := fun c' =>
    make_any p m S (Lt w.heap.size) B c' (lgs L) L w5 (HC2.out.no HF5.out) HI2.out (HRL.out.below (below_fr_no HB2.out HF5.out HB2.out.size) fun _ h => h) (fun k hk => by have hk' : k < w.heap.size := hk; exact ⟨by omega, by omega⟩) HEL.out (by omega)
  clear hf5 HT1
  obtain ⟨E, hE0⟩ : ∃ E, checkE S L = E := ⟨_, rfl⟩
  obtain ⟨U, hU⟩ : ∃ U, makeS S L = U := ⟨_, rfl⟩
  have HI3 : Hid (Inv U) := by show Inv U; rw [← hU]; exact inv_make HI2.out L
  have HW : Hid (E = 0 → U = S.map (updA L) ∧ total (hvs U) = total (hvs S)) := fun h => by rw [← hU]; exact make_weighs HI2.out (by rw [hE0, h])
  have HER : Hid (E ≠ 0 → U = S) := fun h => by rw [← hU]; exact make_err (by rw [hE0]; exact h)
  rw [hE0, hU] at HMK
  clear hE0 hU
  go_wp2_with fail
  refine (HMK.out _).mono ?_
  rintro e w6 ⟨rfl, hc6, hf6⟩
  have HC6 := Lib.hid hc6
  have HF6 := Lib.hid hf6
  have HT2 := Lib.hid (tot_any p m U w6 hc6 HI3.out)
  have HB6 : Hid (Below w.heap.size w w6) := below_fr (below_fr_no HB2.out HF5.out HB2.out.size) hf6 (by omega) (fun k hk => by have : k = m := hk; omega)
  have hs6 := hf6.size
  clear hc6 hf6 HMK
  obtain ⟨tv2, te2, htt2⟩ : ∃ tv te, two64 (total (hvs U)) = .tuple #[.int .i64 tv, .int .i64 te] := ⟨_, _, rfl⟩
  rw [htt2] at HT2
  go_wp2_with fail
  refine HT2.out.mono ?_
  rintro e w7 ⟨rfl, hf7⟩
  have HF7 := Lib.hid hf7
  have HA2 := Lib.hid (all_any p m U w7 (HC6.out.no hf7) HI3.out.nm HI3.out.len)
  clear hf7 HT2
  go_wp2_with fail
  refine HA2.out.mono ?_
  rintro e w8 ⟨v8, rfl, ho8, hf8', hn8⟩
  obtain ⟨A8, c8, rfl, _, _⟩ := ho8.form
  have hf8 := HF7.out.trans (fr_at_none hf8')
  have hml : m < w2.heap.size := HC2.out.2.lt
  have HB8 : Hid (Below w.heap.size w w8) := below_fr_no HB6.out hf8 (by omega)
  have HO8 := Lib.hid ho8.rd
  have h58 : Fr (At1 m) w5 w8 := HF6.out.trans (hf8.mono fun _ _ h => False.elim h)
  have h48 : Rd w8 (fun k => (Value.slice A4 S.length c4).ownBlock = some k) 4 A4 S.length (acs S) := by
    exact (rd_no HO4.out.rd (by omega) H45.out).fr (by omega) h58 (fun k hk _ h => by have h1 := HN4.out k hk; have : k = m := h; omega)
  have HO4' := Lib.hid h48
  have HRL8 := Lib.hid (HRL.out.below HB8.out fun _ h => h)
  have HL1 := HI2.out.len
  have HL2 := HI3.out.len
  clear ho8 hf8' hn8 hf8 h58 h48 HA2 HO4 H45 HN4 HF5 HF6 HF7 HC6
  by_cases h0 : E = 0
  · subst h0
    obtain ⟨hU, hT⟩ := HW.out rfl
    rw [hT, htt] at htt2
    injection htt2 with htt2
    obtain ⟨e1, e2⟩ := two_inj htt2
    subst e1 e2
    have hlen : U.length = S.length := by rw [hU, List.length_map]
    have hz : ((S.length : Int) != (U.length : Int)) = false := by rw [bne_eq_false_iff_eq]; omega
    have HU : Hid (∀ i (h : i < U.length) (h2 : i < S.length), U[i] = updA L S[i]) := fun i h h2 => by simp [hU]
    have HLEN := Lib.hid hlen
    clear htt2 hT hU hlen htt
    go_wp2_with fail
    go_loopw [14] (fun iv wr => WgRel w8 U.length iv wr) (fun iv _ => U.length - (intOf iv).toNat)
    case atStart => exact ⟨0, 0, Nat.zero_le _, rfl, rfl⟩
    case round =>
      obtain ⟨i, j0, hi, rfl, rfl⟩ := hrel
      by_cases hil : i < U.length
      · have hiS : i < S.length := by have := HLEN.out; omega
        obtain ⟨ad, hA, _, p0, p1, p2, p3⟩ := acs_at HO4'.out i hiS
        obtain ⟨bd, hB, _, r0, r1, r2, r3⟩ := acs_at HO8.out i hil
        have hui := HU.out i hil hiS
        have hokU := HI3.out.ok _ (List.getElem_mem hil)
        rw [hui] at r0 r1 r2 r3 hokU
        unfold updA at r0 r1 r2 r3 hokU
        unfold OkA at hokU
        simp only at r0 r1 r2 r3 hokU
        have HBY : Hid (wrap64 (S[i].hv + wrap64 (byOf L S[i].name)) = S[i].hv + byOf L S[i].name) := by
          show _ = _
          rw [wrap_add']
          exact IntWalk.wrap64_in _ hokU.1
        have HNB : Hid (∃ x, S[i].hv + byOf L S[i].name = x ∧ wrap64 (S[i].hv + wrap64 (byOf L S[i].name)) = x) := ⟨_, rfl, HBY.out⟩
        subst hA hB
        obtain ⟨x, hx1, hx2⟩ := HNB.out
        rw [hx1] at r1
        generalize S[i] = a at *
        obtain ⟨na, va, sa, la⟩ := a
        simp only at p0 p1 p2 p3 r0 r1 r2 r3 hx2
        have HX := Lib.hid hx2
        clear HBY HNB hui hokU hx1 hx2
        go_wp2_with fail
        go_loopw [15, 16] (fun bv kv ws => WbRel w8 L na bv kv ws) (fun _ kv _ => L.length - (intOf kv).toNat)
        case atStart => exact ⟨0, j0, Nat.zero_le _, rfl, by rw [wby0], rfl⟩
        case round =>
          obtain ⟨k, j1, hk, rfl, rfl, rfl⟩ := hrel
          by_cases hkl : k < L.length
          · obtain ⟨gd, hgd, _, _, q0, q1⟩ := lg_at HRL8.out HEL.out k hkl hkl
            subst hgd
            have HTK : Hid (byOf (L.take (k + 1)) na = byOf (L.take k) na + if L[k].nm = na then L[k].sum else 0) := byOf_take hkl na
            generalize L[k] = g at *
            obtain ⟨ga, gs⟩ := g
            simp only at q0 q1
            obtain ⟨lo, hlo, hlo2⟩ : ∃ lo : List UInt8, ga = ⟨lo.toArray⟩ ∧ ga.data.toList = lo := ⟨ga.data.toList, by simp, rfl⟩
            unfold Lg.nm at HTK
            simp only [hlo2] at HTK
            subst hlo
            by_cases hn : lo = na
            · subst hn
              have HT2 : Hid (wrap64 (wrap64 (byOf (L.take k) lo) + gs) = wrap64 (byOf (L.take (k + 1)) lo)) := by
                show _ = _
                rw [wrap_add, HTK.out, if_pos rfl]
              generalize byOf (L.take k) lo = b0 at *
              clear hlo2 HTK
              go_wp2
              go_quiet (fail)
              go_wp2
              go_roundw
              case rel => exact ⟨k + 1, _, by omega, by go_num, by rw [← HT2.out], rfl⟩
              case measure => simp [intOf]; omega
            · have HT2 : Hid (wrap64 (byOf (L.take k) na) = wrap64 (byOf (L.take (k + 1)) na)) := by
                show _ = _
                rw [HTK.out, if_neg hn, Int.add_zero]
              have hz1 : (lo == na) = false := beq_eq_false_iff_ne.2 hn
              have hz2 : ((⟨lo.toArray⟩ : ByteArray).toList == (⟨na.toArray⟩ : ByteArray).toList) = false := by rw [ByteArray.toList_eq, ByteArray.toList_eq]; exact hz1
              generalize byOf (L.take k) na = b0 at *
              clear hlo2 HTK hn
              go_wp2
              go_quiet (fail)
              go_wp2
              go_roundw
              case rel => exact ⟨k + 1, _, by omega, by go_num, by rw [← HT2.out], rfl⟩
              case measure => simp [intOf]; omega
          · obtain rfl : k = L.length := by omega
            rw [List.take_length]
            have hX := HX.out
            generalize byOf L na = b0 at *
            go_wp2
            go_quiet (fail)
            go_wp2
            go_roundw
            case rel => exact ⟨i + 1, _, by omega, by go_num, rfl⟩
            case measure => simp [intOf]; omega
      · go_wp2
        go_ret
        exact ⟨rfl, below_drewN HB8.out _⟩
  · have hSU := HER.out h0
    subst hSU
    have hz : (E == 0) = false := beq_eq_false_iff_ne.2 h0
    have hz2 : (E != 0) = true := by rw [bne_iff_ne]; exact h0
    have hsm := sameA_any _ _ A4 A8 c4 c8 U U w8 HO4'.out HO8.out (by omega)
    rw [decide_eq_true rfl] at hsm
    have HSM := Lib.hid hsm
    clear hsm h0 HW HER htt htt2
    go_wp2_with fail
    refine HSM.out.mono ?_
    rintro e w9 ⟨rfl, j9, rfl⟩
    go_wp2
    go_ret
    exact ⟨rfl, below_drewN HB8.out _⟩
end Go.Proofs.Ytpaeohmoecdniab
