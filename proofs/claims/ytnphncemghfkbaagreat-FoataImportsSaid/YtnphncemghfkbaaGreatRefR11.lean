/- The document's own reader of bytes. -/
import Derived.Test.YtnphncemghfkbaaGreatRefP1
import Derived.Test.YtnphncemghfkbaaGreatQ13
import Derived.Test.YtnphncemghfkbaaGreatRefB11
import Derived.Deep.CutBlock
import Derived.Deep.DeepCutAuto
namespace Go.Proofs.YtnphncemghfkbaaGreat
open Go.RowKit Go.My Go.Maps
set_option linter.unusedSimpArgs false
set_option linter.unusedVariables false
attribute [local go_sem ↓] Go.wp_at_zero Go.wp_at_succ

/-- the document's reader at p, whose bytes l lie in blocks that F names; e: its error -/
def RdR (F : Nat → Prop) (w : World) (p : Nat) (l : List UInt8) (e : Nat) : Prop :=
  ∃ A c, Blk w p 75 #[.slice A l.length c, .int .i64 (e : Int)] ∧ Rd w F 1 A l.length (bs l) ∧ l.length ≤ c ∧ c ≤ maxLen ∧ l.length ≤ 1000000 ∧ ¬ F p
theorem RdR.fr {F : Nat → Prop} {w w' : World} {p : Nat} {l : List UInt8} {e : Nat} {S : Nat → Prop} (h : RdR F w p l e) (hf : Fr S w w') (hp : ¬ S p) (hF : ∀ k, F k → ¬ S k) : RdR F w' p l e := by
  obtain ⟨A, c, hb, hr, h1, h2, h3, h4⟩ := h
  exact ⟨A, c, hb.fr hf hp, hr.fr (by omega) hf (fun k hk _ => hF k hk), h1, h2, h3, h4⟩
def RetQ (F : Nat → Prop) (w : World) (p : Nat) (v : Value) (l : List UInt8) (e0 : Nat) (e : Ending) (w' : World) : Prop := e = .returned v ∧ RdR F w' p l e0 ∧ Fr (At1 p) w w'
theorem rfail_at (F : Nat → Prop) (p : Nat) (l : List UInt8) (e0 k : Nat) (w : World) (h : RdR F w p l e0) :
    Calls Tryz.prog 80 #[.pointer (some ⟨p, 0, none⟩), .int .i64 (k : Int)] w (RetQ F w p (.int .i64 (k : Int)) [] k) := by
  obtain ⟨A, c, hb, hr, h1, h2, h3, h4⟩ := h
  have c0 := hb.cell 0
  have c1 := hb.cell 1
  have f0 := hb.frozen 0
  have f1 := hb.frozen 1
  simp at c0 c1
  go_enter Tryz.func80, Tryz.ntmps80
  go_wp2
  go_ret
  refine ⟨rfl, ⟨none, 0, (hb.set_ 0 _).set_ 1 _, Rd.none_, Nat.le_refl _, by decide, by simp, h4⟩, ?_⟩
  exact (fr_set _ _ _ _).trans (fr_set _ _ _ _)
theorem bytes_at {w : World} {F : Nat → Prop} {A : Option Addr} {l : List UInt8} {n : Nat} (h : Rd w F 1 A n (bs l)) (k : Nat) (hk : k < n) : ∃ ad, ∃ hl : k < l.length, A = some ad ∧ F ad.block ∧ w.cell? (ad.add k) = some (.int .u8 (l[k].toNat : Int)) := by
  obtain ⟨ad, rfl, hF, hc⟩ := h.2 (by omega)
  have hl : k < l.length := by have := h.1; rw [bs_length] at this; omega
  exact ⟨ad, hl, rfl, hF, hc k _ (bs_get l k hl)⟩
def LdRel (w : World) (l : List UInt8) (nv : Value) (wr : World) : Prop := ∃ n : Nat, Lead l n ∧ nv = .int .i64 (n : Int) ∧ wr = w
def MvRel (w : World) (l : List UInt8) (n : Nat) (mv iv : Value) (wr : World) : Prop := ∃ k : Nat, k ≤ n + 1 ∧ iv = .int .i64 ((k : Int) - 1) ∧ mv = .int .u64 ((valF (n + 1 - k) (l.drop k) % 18446744073709551616 : Nat) : Int) ∧ wr = w
def SmRelR (w : World) (l a : List UInt8) (iv : Value) (wr : World) : Prop := ∃ k : Nat, k ≤ a.length ∧ iv = .int .i64 (k : Int) ∧ a.take k = l.take k ∧ Fr No w wr
theorem mul_step (a b : Nat) (hb : b < 128) : IntKind.u64.wrap (IntKind.u64.wrap (((a % 18446744073709551616 : Nat) : Int) * 128) + (b : Int)) = (((b + 128 * a) % 18446744073709551616 : Nat) : Int) := by
  rw [IntKind.wrap_u64, IntKind.wrap_u64]
  omega
theorem zag_val (m : Nat) : zag m = if m % 2 = 1 then -1 - ((m / 2 : Nat) : Int) else ((m / 2 : Nat) : Int) := by
  unfold zag
  split <;> split <;> omega
set_option maxRecDepth 100000 in
set_option maxHeartbeats 1000000 in
theorem rNum_at (F : Nat → Prop) (p : Nat) (l : List UInt8) (e0 : Nat) (w : World) (h : RdR F w p l e0) (he : e0 < 5) :
    Calls Tryz.prog 79 #[.pointer (some ⟨p, 0, none⟩)] w (RetQ F w p (two (rnum l e0).1 (rnum l e0).2.1) (rnum l e0).2.2 (rnum l e0).2.1) := by
  have H := Lib.hid h
  obtain ⟨A, c, hb, hr, h1, h2, h3, h4⟩ := h
  have c0 := hb.cell 0
  have c1 := hb.cell 1
  have f0 := hb.frozen 0
  simp only [List.getElem?_toArray, List.getElem?_cons_zero, List.getElem?_cons_succ] at c0 c1
  by_cases h0 : e0 = 0
  rotate_left
  · have hz : ((e0 : Int) != 0) = true := by rw [bne_iff_ne]; omega
    have HRN : Hid (rnum l e0 = (0, e0, l)) := by
      show _ = _
      unfold rnum
      rw [if_pos h0]
    generalize rnum l e0 = r at *
    obtain ⟨r1, r2, r3⟩ := r
    obtain ⟨rfl, rfl, rfl⟩ : r1 = 0 ∧ r2 = e0 ∧ r3 = l := by have := HRN.out; simp only [Prod.mk.injEq] at this; exact this
    clear h0 hb hr HRN
    go_enter Tryz.func79, Tryz.ntmps79
    go_wp2
    go_quiet (fail)
    go_wp2
    go_ret2
    exact ⟨rfl, H.out.fr ((Fr.refl No w).drewN _) (fun h => h) (fun _ _ h => h), (Fr.refl _ w).drewN _⟩
  subst h0
  have HD4 : Hid (∀ n, Lead l n → n = l.length → rnum l 0 = (0, 4, [])) := fun n hn h => by
    unfold rnum
    rw [dec_torn_of hn h]
    rfl
  have HD3 : Hid (∀ n, Lead l n → n < l.length → n = 10 → rnum l 0 = (0, 3, [])) := fun n hn h h10 => by
    unfold rnum
    rw [dec_long_of hn h h10]
    rfl
  have HDV : Hid (∀ n, Lead l n → (hn : n < l.length) → n < 10 → l[n].toNat < 128 → (enc (valF (n + 1) l % 18446744073709551616) = l.take (n + 1) → rnum l 0 = (zag (valF (n + 1) l % 18446744073709551616), 0, l.drop (n + 1))) ∧ (enc (valF (n + 1) l % 18446744073709551616) ≠ l.take (n + 1) → rnum l 0 = (0, 3, []))) := fun n hL hn h10 hl => by
    have h := dec_val_of hL hn h10 hl rfl
    constructor
    · intro he
      unfold rnum
      rw [h.1 he]
      rfl
    · intro he
      unfold rnum
      rw [h.2 he]
      rfl
  generalize rnum l 0 = r at *
  have HB := Lib.hid hb
  have HR := Lib.hid hr
  have HLC : Hid (l.length ≤ c ∧ c ≤ maxLen ∧ l.length ≤ 1000000 ∧ ¬ F p) := ⟨h1, h2, h3, h4⟩
  clear hb hr h1 h2 h3 h4 he
  go_enter Tryz.func79, Tryz.ntmps79
  go_wp2_with fail
  go_loopw [4] (fun nv wr => LdRel w l nv wr) (fun nv _ => l.length - (intOf nv).toNat)
  case atStart => exact ⟨0, Lead.zero l, rfl, rfl⟩
  case round =>
    obtain ⟨n, hld, rfl, rfl⟩ := hrel
    have hlc := HLC.out.2.2.1
    have hnl : n ≤ l.length := hld.1
    have hn10 : n ≤ 10 := hld.2.1
    have hk62 : (n : Int) < 9223372036854775807 := by omega
    by_cases hlt : n < l.length
    rotate_left
    · obtain rfl : n = l.length := by omega
      obtain rfl := HD4.out _ hld rfl
      clear hld
      have HFL := Lib.hid (rfail_at F p l 0 4 wr H.out)
      go_wp2_with fail
      refine HFL.out.mono ?_
      rintro e w1 ⟨rfl, h1, hf1⟩
      go_wp2
      go_ret2
      exact ⟨rfl, h1, hf1⟩
    by_cases h10 : n = 10
    · obtain rfl := HD3.out _ hld hlt h10
      subst h10
      have hq : ((10 : Int) == (l.length : Int)) = false := by rw [beq_eq_false_iff_ne]; omega
      clear hld
      have HFL := Lib.hid (rfail_at F p l 0 3 wr H.out)
      go_wp2_with fail
      refine HFL.out.mono ?_
      rintro e w1 ⟨rfl, h1, hf1⟩
      go_wp2
      go_ret2
      exact ⟨rfl, h1, hf1⟩
    obtain ⟨ad, hl, rfl, _, q0⟩ := bytes_at HR.out n hlt
    have hq : ((n : Int) == (l.length : Int)) = false := by rw [beq_eq_false_iff_ne]; omega
    have hq2 : ((n : Int) == 10) = false := by rw [beq_eq_false_iff_ne]; omega
    have hq3 : n < 10 := by omega
    by_cases hc : 128 ≤ l[n].toNat
    · have HNX := Lib.hid (hld.next hlt hq3 hc)
      have HLT : Hid (n + 1 ≤ l.length) := hlt
      generalize l[n].toNat = x at *
      have hcI : (128 : Int) ≤ (x : Int) := by omega
      clear hld hq hq2 hlc hn10 hnl hk62
      go_wp2
      go_roundw
      case rel => exact ⟨n + 1, HNX.out, congrArg (Value.int .i64) (by omega), rfl⟩
      case measure => have := HLT.out; simp [intOf]; omega
    have HVAL := Lib.hid (HDV.out n hld hlt hq3 (by omega))
    have hnv : l[n].toNat < 128 := by omega
    have HCC := Lib.hid (show l[n].toNat < 128 by omega)
    clear hld hc
    generalize hm0 : valF (n + 1) l % 18446744073709551616 = m0 at *
    have hmb : m0 < 18446744073709551616 := by omega
    generalize l[n].toNat = x at *
    have hcI : ¬ (128 : Int) ≤ (x : Int) := by omega
    have hcN : ¬ 128 ≤ x := by omega
    have HM0 := Lib.hid hm0
    have HMB := Lib.hid hmb
    have HNL := Lib.hid hlt
    have HN10 := Lib.hid hq3
    clear hm0 hmb hlc hnl hn10 hk62
    go_wp2_with fail
    go_loopw [5, 6] (fun mv iv wr' => MvRel wr l n mv iv wr') (fun _ iv _ => (intOf iv + 1).toNat)
    case atStart =>
      refine ⟨n + 1, Nat.le_refl _, congrArg (Value.int .i64) (by omega), ?_, rfl⟩
      rw [Nat.sub_self]
      rfl
    case round =>
      obtain ⟨k, hk, rfl, rfl, rfl⟩ := hrel
      have hk11 : k ≤ 10 := by have := HN10.out; omega
      by_cases hk0 : k = 0
      rotate_left
      · obtain ⟨k1, rfl⟩ : ∃ k1, k = k1 + 1 := ⟨k - 1, by omega⟩
        have hkl : k1 < l.length := by have := HNL.out; omega
        obtain ⟨ad', hl', e1, _, q1⟩ := bytes_at HR.out k1 hkl
        cases e1
        have HVD : Hid (valF (n + 1 - k1) (l.drop k1) = l[k1].toNat % 128 + 128 * valF (n + 1 - (k1 + 1)) (l.drop (k1 + 1))) := by
          show _ = _
          have h := valF_drop (n + 1 - (k1 + 1)) hl'
          rw [show n + 1 - (k1 + 1) + 1 = n + 1 - k1 by omega] at h
          exact h
        have hbx : l[k1].toNat < 256 := l[k1].toNat_lt
        generalize l[k1].toNat = y at *
        generalize valF (n + 1 - (k1 + 1)) (l.drop (k1 + 1)) = V at *
        have hsub : ((k1 + 1 : Nat) : Int) - 1 = (k1 : Int) := by omega
        rw [hsub]
        have HK : Hid (k1 + 1 ≤ n + 1) := hk
        have HMU := Lib.hid (mul_step V (y % 128) (by omega))
        have HYX : Hid (((y % 128 : Nat) : Int) = (y : Int) % 128) := by show _ = _; omega
        clear hsub hk hk0
        go_wp2_with fail
        go_roundw
        case rel => exact ⟨k1, by have := HK.out; omega, rfl, congrArg (Value.int .u64) (by rw [HVD.out, IntKind.wrap_u64, IntKind.wrap_u64]; omega), rfl⟩
        case measure => simp [intOf]
      · subst hk0
        have hval : valF (n + 1 - 0) (l.drop 0) % 18446744073709551616 = m0 := by
          rw [Nat.sub_zero, List.drop_zero]
          exact HM0.out
        rw [hval]
        have hng : ((0 : Nat) : Int) - 1 = -1 := rfl
        rw [hng]
        have HZB := Lib.hid (zag_bd m0 HMB.out)
        have HZZ : Hid (enc (zig (zag m0)) = enc m0) := by show _ = _; rw [zig_zag]
        have HNUM := Lib.hid (refNumN (zag m0) HZB.out wr wr (Fr.refl _ _))
        unfold nB at HNUM
        rw [HZZ.out] at HNUM
        have HEL := Lib.hid (enc_length_le m0)
        have HZV : Hid ((m0 % 2 = 1 ∧ zag m0 = -1 - ((m0 / 2 : Nat) : Int)) ∨ (¬ m0 % 2 = 1 ∧ zag m0 = ((m0 / 2 : Nat) : Int))) := by
          show _ ∨ _
          rw [zag_val]
          split
          · exact .inl ⟨‹_›, rfl⟩
          · exact .inr ⟨‹_›, rfl⟩
        clear hval hng hk hk11
        generalize enc m0 = a at *
        generalize zag m0 = z at *
        have hmi : (m0 : Int) < 18446744073709551616 := by have := HMB.out; omega
        obtain ⟨h, hh⟩ : ∃ h, h = m0 / 2 := ⟨_, rfl⟩
        obtain ⟨b, hbb⟩ : ∃ b, b = m0 % 2 := ⟨_, rfl⟩
        have hw1 : IntKind.u64.wrap ((m0 : Int) / 2) = (h : Int) := by rw [wrapu]; omega
        have hw2 : IntKind.u64.wrap ((m0 : Int) % 2) = (b : Int) := by rw [wrapu]; omega
        have hw3 : wrap64 (h : Int) = (h : Int) := IntWalk.wrap64_in _ ⟨by omega, by omega⟩
        have HW4 : Hid (wrap64 (-1 - (h : Int)) = -1 - (h : Int)) := IntWalk.wrap64_in _ ⟨by omega, by omega⟩
        rw [← hh, ← hbb] at HZV
        have HBB := Lib.hid hbb
        have HW3 := Lib.hid hw3
        clear hmi hh hbb
        go_upto_if 77 with (fail)
        go_cut [7] (fun a7 wx => a7 = .int .i64 z ∧ wx = wr)
        case first =>
          rcases HZV.out with ⟨h1, h2⟩ | ⟨h1, h2⟩
          · have hq7 : (((m0 : Int) % 2) == 1) = true := by have := HBB.out; rw [beq_iff_eq]; omega
            have hq4 : ((b : Int) == 1) = true := by rw [beq_iff_eq]; omega
            have hq6 : (b == 1) = true := by rw [beq_iff_eq]; omega
            have HZ2 := Lib.hid h2
            have hw4 := HW4.out
            clear h2 HW4
            subst h1
            go_wp2
            go_meet
            exact ⟨congrArg (Value.int .i64) (by first | exact HZ2.out.symm | (rw [HW3.out]; exact HZ2.out.symm)), rfl⟩
          · have hq7 : (((m0 : Int) % 2) == 1) = false := by have := HBB.out; rw [beq_eq_false_iff_ne]; omega
            have hq4 : ((b : Int) == 1) = false := by rw [beq_eq_false_iff_ne]; omega
            have hq6 : (b == 1) = false := by rw [beq_eq_false_iff_ne]; omega
            have HZ2 := Lib.hid h2
            clear h1 h2
            go_wp2
            go_meet
            exact ⟨congrArg (Value.int .i64) (by first | exact HZ2.out.symm | (rw [HW3.out]; exact HZ2.out.symm)), rfl⟩
        case rest =>
          obtain ⟨rfl, rfl⟩ := hcut
          go_wp2_with fail
          refine HNUM.out.mono ?_
          rintro e w2 ⟨Aa, ca, rfl, ra, hfa⟩
          have hlp : (l.take (n + 1)).length = n + 1 := by have := HNL.out; rw [List.length_take]; omega
          by_cases hal : a.length = n + 1
          rotate_left
          · obtain rfl := HVAL.out.2 (fun e => hal (by rw [e, hlp]))
            have hq6 : ((a.length : Int) != ((n : Int) + 1)) = true := by rw [bne_iff_ne]; omega
            have hne : ¬ (a.length : Int) = (n : Int) + 1 := by omega
            have HFL := Lib.hid (rfail_at F p l 0 3 w2 (H.out.fr hfa (fun h => h) (fun _ _ h => h)))
            have HFA := Lib.hid hfa
            clear hal hlp ra hfa HDV HD3 HD4 c0 c1
            go_wp2_with fail
            refine HFL.out.mono ?_
            rintro e w3 ⟨rfl, h1, hf1⟩
            go_wp2
            go_ret2
            exact ⟨rfl, h1, (HFA.out.mono (fun _ _ h => (h : False).elim)).trans hf1⟩
          · have hq6 : ((a.length : Int) != ((n : Int) + 1)) = false := by rw [bne_eq_false_iff_eq]; omega
            have hqe : (a.length : Int) = (n : Int) + 1 := by omega
            have HAL := Lib.hid hal
            have HLP := Lib.hid hlp
            have HRA := Lib.hid ra.1
            have HFA := Lib.hid hfa
            have hx2 := (HB.out.fr hfa (fun h => h)).cell 0
            simp only [List.getElem?_toArray, List.getElem?_cons_zero, List.getElem?_cons_succ] at hx2
            have HR2 := Lib.hid (HR.out.fr (by omega) hfa (fun _ _ _ h => h))
            have H2 := Lib.hid (H.out.fr hfa (fun h => h) (fun _ _ h => h))
            have HB2 := Lib.hid (HB.out.fr hfa (fun h => h))
            clear hal hlp ra hfa HDV HD3 HD4 c0 c1 hqe hw1 hw2 hw3
            go_wp2_with fail
            go_loopw [9] (fun iv wr => SmRelR w2 l a iv wr) (fun iv _ => a.length - (intOf iv).toNat)
            case atStart => exact ⟨0, Nat.zero_le _, rfl, rfl, Fr.refl _ _⟩
            case round =>
              obtain ⟨k, hk, rfl, htk, hfr⟩ := hrel
              have hx3 := (HB2.out.fr hfr (fun h => h)).cell 0
              simp only [List.getElem?_toArray, List.getElem?_cons_zero, List.getElem?_cons_succ] at hx3
              clear hx2
              by_cases hkn : k ≤ n
              · have hka : k < a.length := by have := HAL.out; omega
                have hkl : k < l.length := by have := HNL.out; omega
                obtain ⟨bd, hb1, rfl, _, q1⟩ := bytes_at (HRA.out.fr hfr (fun _ _ h => h)).rd k hka
                obtain ⟨ad2, hb2, e2, _, q2⟩ := bytes_at (HR2.out.fr (by omega) hfr (fun _ _ _ h => h)) k hkl
                cases e2
                have HNX : Hid (a[k] = l[k] → a.take (k + 1) = l.take (k + 1)) := fun h => by
                  rw [List.take_succ_eq_append_getElem hb1, List.take_succ_eq_append_getElem hb2, htk]
                  exact congrArg (fun z => l.take k ++ [z]) h
                have HNE : Hid (a[k] ≠ l[k] → a ≠ l.take (n + 1)) := fun h e => by
                  have h1 : a[k]? = (l.take (n + 1))[k]? := by rw [← e]
                  rw [List.getElem?_take, if_pos (by omega), List.getElem?_eq_getElem hb1, List.getElem?_eq_getElem hb2] at h1
                  injection h1 with h1
                  exact h h1
                have HKN : Hid (k + 1 ≤ a.length) := hka
                have HFR := Lib.hid hfr
                have hk62 : (k : Int) < 9223372036854775807 := by have := HN10.out; omega
                have hkn2 : (k : Int) ≤ (n : Int) := by omega
                clear hfr htk
                generalize a[k] = ya at *
                generalize l[k] = xl at *
                by_cases hxy : ya = xl
                · subst hxy
                  have HX2 := Lib.hid (HNX.out rfl)
                  go_wp2
                  go_quiet (fail)
                  go_wp2
                  go_roundw
                  case rel => exact ⟨k + 1, HKN.out, by go_num, HX2.out, HFR.out.drewN _⟩
                  case measure => have := HKN.out; simp [intOf]; omega
                · obtain rfl := HVAL.out.2 (HNE.out hxy)
                  have hyn : ¬ ya.toNat = xl.toNat := fun e => hxy (UInt8.toNat_inj.1 e)
                  have hq8 : ((ya.toNat : Int) != (xl.toNat : Int)) = true := by rw [bne_iff_ne]; omega
                  have hq9 : ((ya.toNat : Int) == (xl.toNat : Int)) = false := by rw [beq_eq_false_iff_ne]; omega
                  generalize ya.toNat = yn at *
                  generalize xl.toNat = xn at *
                  have HFL := Lib.hid (fun j => rfail_at F p l 0 3 (wr.drewN j) (H2.out.fr (HFR.out.drewN j) (fun h => h) (fun _ _ h => h)))
                  clear hxy hyn
                  go_wp2
                  go_quiet (fail)
                  go_wp2_with fail
                  refine (HFL.out _).mono ?_
                  rintro e w3 ⟨rfl, h1, hf1⟩
                  go_wp2
                  go_ret2
                  exact ⟨rfl, h1, (((HFA.out.trans HFR.out).drewN _).mono (fun _ _ h => (h : False).elim)).trans hf1⟩
              · obtain rfl : k = a.length := by have := HAL.out; omega
                have hae : a = l.take (n + 1) := by
                  have h1 := htk
                  rw [List.take_length, HAL.out] at h1
                  exact h1
                obtain rfl := HVAL.out.1 hae
                have hkn2 : ¬ (a.length : Int) ≤ (n : Int) := by have := HAL.out; omega
                have hcn : n + 1 ≤ l.length := HNL.out
                have hlc := HLC.out.1
                have hci : (n : Int) + 1 ≤ (l.length : Int) := by omega
                have hcj : (n : Int) + 1 ≤ (c : Int) := by omega
                have hck : ((n : Int) + 1).toNat = n + 1 := by omega
                have hw : wrap64 ((n : Int) + 1) = (n : Int) + 1 := IntWalk.wrap64_in _ ⟨by omega, by have := HN10.out; omega⟩
                have HFR := Lib.hid hfr
                have hf03 := (HB2.out.fr hfr (fun h => h)).frozen 0
                have HB3 := Lib.hid (HB2.out.fr hfr (fun h => h))
                have HR3 := Lib.hid (HR2.out.fr (by omega) hfr (fun _ _ _ h => h))
                have HCI := Lib.hid hcn
                clear hfr htk hae hkn hcn hlc
                have HFIN : Hid (∀ X L C v, X = (if c = n + 1 then some ad else (some ad).map (·.add (n + 1))) → L = l.length - (n + 1) → C = c - (n + 1) → v = two z 0 → RetQ F wc p (two z 0) (l.drop (n + 1)) 0 (.returned v) (wr.setCell ⟨p, 0, none⟩ (.slice X L C))) := by
                  have hl := HLC.out
                  have hcut := HR3.out.cut (k := n + 1) (cap := c) HCI.out hl.1
                  have e : l.length - (n + 1) = (l.drop (n + 1)).length := by simp
                  rw [Nat.mul_one, ← bs_drop, e] at hcut
                  rintro X L C v rfl rfl rfl rfl
                  rw [e]
                  refine ⟨rfl, ⟨_, _, HB3.out.set_ 0 _, hcut.fr (by omega) (fr_set _ _ _ _) (fun k hk _ hs => hl.2.2.2 (by rw [At1] at hs; rw [← hs]; exact hk)), by rw [← e]; omega, by omega, by rw [← e]; omega, hl.2.2.2⟩, ?_⟩
                  exact ((HFA.out.trans HFR.out).mono (fun _ _ h => (h : False).elim)).trans (fr_set _ _ _ _)
                go_wp2
                focus
                  go_ret2
                  exact HFIN.out _ _ _ _ (by rw [if_pos (by assumption)]) rfl (by omega) rfl
                focus
                  go_ret2
                  exact HFIN.out _ _ _ _ (by rw [if_neg (by assumption)]; simp [Addr.add]) rfl rfl rfl
/-- what Range tells -/
theorem rRange_at (F : Nat → Prop) (p : Nat) (lo hi : Int) (l : List UInt8) (e0 : Nat) (w : World) (h : RdR F w p l e0) (he : e0 < 5) :
    Calls Tryz.prog 51 #[.pointer (some ⟨p, 0, none⟩), .int .i64 lo, .int .i64 hi] w (RetQ F w p (two (rrange lo hi l e0).1 (rrange lo hi l e0).2.1) (rrange lo hi l e0).2.2 (rrange lo hi l e0).2.1) := by
  have hn := rNum_at F p l e0 w h he
  have hlt := rnum_err l e0 he
  unfold rrange
  generalize rnum l e0 = r at hn hlt ⊢
  obtain ⟨v, k, l'⟩ := r
  simp only at hn hlt ⊢
  have HN := Lib.hid hn
  clear hn h
  by_cases hk : k = 0
  · have hz : ((k : Int) != 0) = false := by rw [bne_eq_false_iff_eq]; omega
    have HK := Lib.hid hk
    clear hk
    by_cases h1 : v < lo
    · go_enter Tryz.func51, Tryz.ntmps51
      go_wp2_with (first | (go_at_call 79; refine HN.out.mono ?_; rintro e w1 ⟨rfl, hr1, hf1⟩; unfold two) | (go_at_call 80; refine (rfail_at F p _ _ 3 _ hr1).mono ?_; rintro e w2 ⟨rfl, hr2, hf2⟩))
      go_ret2
      have hk := HK.out
      subst hk
      simp only [ne_eq, not_true_eq_false, if_false, h1, true_or, if_true]
      exact ⟨rfl, hr2, hf1.trans hf2⟩
    · by_cases h2 : hi < v
      · go_enter Tryz.func51, Tryz.ntmps51
        go_wp2_with (first | (go_at_call 79; refine HN.out.mono ?_; rintro e w1 ⟨rfl, hr1, hf1⟩; unfold two) | (go_at_call 80; refine (rfail_at F p _ _ 3 _ hr1).mono ?_; rintro e w2 ⟨rfl, hr2, hf2⟩))
        go_ret2
        have hk := HK.out
        subst hk
        have hc : v < lo ∨ hi < v := .inr h2
        simp only [ne_eq, not_true_eq_false, if_false, hc, if_true]
        exact ⟨rfl, hr2, hf1.trans hf2⟩
      · go_enter Tryz.func51, Tryz.ntmps51
        go_wp2_with (go_at_call 79; refine HN.out.mono ?_; rintro e w1 ⟨rfl, hr1, hf1⟩; unfold two)
        go_ret2
        have hk := HK.out
        subst hk
        have hc : ¬ (v < lo ∨ hi < v) := by omega
        simp only [ne_eq, not_true_eq_false, if_false, hc]
        exact ⟨rfl, hr1, hf1⟩
  · have hz : ((k : Int) != 0) = true := by rw [bne_iff_ne]; omega
    have HK := Lib.hid hk
    clear hk
    go_enter Tryz.func51, Tryz.ntmps51
    go_wp2_with (go_at_call 79; refine HN.out.mono ?_; rintro e w1 ⟨rfl, hr1, hf1⟩; unfold two)
    go_ret2
    have hn0 := HK.out
    simp only [ne_eq, hn0, not_false_eq_true, if_true]
    exact ⟨rfl, hr1, hf1⟩
theorem rdR_cut {F : Nat → Prop} {w : World} {p : Nat} {l : List UInt8} {e : Nat} {A : Option Addr} {c n : Nat} {X : Option Addr} {L C : Nat} (hb : Blk w p 75 #[.slice A l.length c, .int .i64 (e : Int)]) (hr : Rd w F 1 A l.length (bs l))
    (hl : l.length ≤ c) (hc : c ≤ maxLen) (hm : l.length ≤ 1000000) (hne : ¬ F p) (hn : n ≤ l.length) (hX : X = if c = n then A else A.map (·.add n)) (hL : L = l.length - n) (hC : C = c - n) :
    RdR F (w.setCell ⟨p, 0, none⟩ (.slice X L C)) p (l.drop n) e := by
  have hcut := hr.cut (k := n) (cap := c) hn hl
  have e1 : l.length - n = (l.drop n).length := by simp
  rw [Nat.mul_one, ← bs_drop, e1] at hcut
  subst hX hL hC
  rw [e1]
  exact ⟨_, _, hb.set_ 0 _, hcut.fr (by omega) (fr_set _ _ _ _) (fun k hk _ hs => hne (by rw [At1] at hs; rw [← hs]; exact hk)), by rw [← e1]; omega, by omega, by rw [← e1]; omega, hne⟩
set_option maxHeartbeats 400000 in
set_option maxRecDepth 100000 in
theorem rText_at (F : Nat → Prop) (p : Nat) (most : Int) (l : List UInt8) (e0 : Nat) (w : World) (h : RdR F w p l e0) (he : e0 < 5) :
    Calls Tryz.prog 52 #[.pointer (some ⟨p, 0, none⟩), .int .i64 most] w (RetQ F w p (twoS (rtext most l e0).1 (rtext most l e0).2.1) (rtext most l e0).2.2 (rtext most l e0).2.1) := by
  have hn := rRange_at F p 0 most l e0 w h he
  have hlt := rrange_err 0 most l e0 he
  have hok := rrange_ok 0 most l e0
  unfold rtext
  generalize rrange 0 most l e0 = r at hn hlt hok ⊢
  obtain ⟨v, k, l'⟩ := r
  simp only at hn hlt hok ⊢
  have HN := Lib.hid hn
  clear hn h
  by_cases hk : k = 0
  · have hz : ((k : Int) != 0) = false := by rw [bne_eq_false_iff_eq]; omega
    obtain ⟨hv, hv0, hv1⟩ := hok hk
    have hvv : v = (rnum l e0).1 := by rw [← hv]
    rw [← hvv] at hv0
    have hbd := (rnum_bd l e0).2
    rw [← hvv] at hbd
    have HK := Lib.hid hk
    clear hk hok hv hv1 hvv
    by_cases h1 : l'.length < v
    · have HH := Lib.hid h1
      go_enter Tryz.func52, Tryz.ntmps52
      go_wp2_with (first | (go_at_call 51; refine HN.out.mono ?_; rintro e w1 ⟨rfl, hr1, hf1⟩; (have hr1' := hr1; obtain ⟨A, c, hb, hr, hl, hc, hm, hne⟩ := hr1'; have c0 := hb.cell 0; simp at c0; clear hb hr hl hc hm hne; unfold two)) | (go_at_call 80; refine (rfail_at F p _ _ 4 _ hr1).mono ?_; rintro e w2 ⟨rfl, hr2, hf2⟩))
      go_ret2
      have hk := HK.out
      subst hk
      simp only [ne_eq, not_true_eq_false, if_false, h1, if_true]
      exact ⟨rfl, hr2, hf1.trans hf2⟩
    · obtain ⟨n, rfl⟩ := Int.eq_ofNat_of_zero_le hv0
      have hnl : n ≤ l'.length := by omega
      go_enter Tryz.func52, Tryz.ntmps52
      go_wp2_with (first | (go_at_call 51; refine HN.out.mono ?_; rintro e w1 ⟨rfl, hr1, hf1⟩; (obtain ⟨A, c, hb, hr, hl, hc, hm, hne⟩ := hr1; have HM := Lib.hid hm; have HC := Lib.hid hc; clear hm hc; have c0 := hb.cell 0; have f0 := hb.frozen 0; simp at c0; have hcv := run_str_of_bytes (P := Tryz.prog) (c := c) 25 9 5 Tryz.underlying25 Tryz.underlying5 Tryz.underlying9 (show Rd w1 F 1 A n (bs (l'.take n)) by rw [bs_take]; simpa using hr.take hnl); unfold two)))
      all_goals
        go_ret2
        have hk := HK.out
        subst hk
        refine ⟨rfl, ?_, hf1.trans (fr_set _ _ _ _)⟩
        first
          | exact rdR_cut hb hr hl HC.out HM.out hne hnl (by rw [if_pos (by assumption)]) rfl (by omega)
          | exact rdR_cut hb hr hl HC.out HM.out hne hnl (by rw [if_neg (by assumption)]) rfl (by omega)
  · have hz : ((k : Int) != 0) = true := by rw [bne_iff_ne]; omega
    have HK := Lib.hid hk
    clear hk hok
    go_enter Tryz.func52, Tryz.ntmps52
    go_wp2_with (go_at_call 51; refine HN.out.mono ?_; rintro e w1 ⟨rfl, hr1, hf1⟩; unfold two)
    go_ret2
    have hk := HK.out
    simp only [ne_eq, hk, not_false_eq_true, if_true]
    exact ⟨rfl, hr1, hf1⟩
end Go.Proofs.YtnphncemghfkbaaGreat
