/- Which Insts may be, which is ahead: the program's and the document's. A region that draws its order, whose operations and callees keep to a class of worlds: one walk of the text's order serves every order. Of no program. What an entry waits for: rows of Insts in memory; the program's rightDeps. Maps from numbers to values of any kind (functions, structs of them) that the call makes: of no program. Legs, as they come in and lie in memory. A region that draws its order, by an invariant: of no program. A region taken out of a function's code, so that a lemma can speak of it alone. Of no program. -/
import Derived.Test.YtcpgamidimfflaaGreatQ09
import Derived.Test.YtcpgamidimfflaaGreatQ02
import Derived.Deep.QuietTactic
import Derived.BigQuiet
import Derived.Deep.CutBlock
import Derived.Maps.Ext
import Derived.Maps.OwnSet
import Derived.Maps.OwnOps
import Derived.Test.YtcpgamidimfflaaGreatQ06
import Derived.RegionTactic
namespace Go.Proofs.YtcpgamidimfflaaGreat
open Go.RowKit Go.My Go.Maps Go.WideMaps Go.Sort
set_option linter.unusedSimpArgs false
set_option linter.unusedVariables false
attribute [local go_sem ↓] Go.wp_at_zero Go.wp_at_succ
theorem ahead14_any (a b : In2) (W : World) : Calls Tryz.prog 38 #[.agg #[.int .i64 a.1, .int .i64 a.2], .agg #[.int .i64 b.1, .int .i64 b.2]] W fun e w' => e = .returned (.bool (aheadI a b)) ∧ Fr No W w' := by
  have HC : Hid (∀ W, Calls Tryz.prog 78 #[.agg #[.int .i64 a.1, .int .i64 a.2], .agg #[.int .i64 b.1, .int .i64 b.2]] W fun e w' => e = .returned (.int .i64 (cfI a b)) ∧ Fr No W w') := Lib.hid (fun W => (compareIn_any a b W).mono fun e w' ⟨h1, q, os, h2⟩ => ⟨h1, by rw [h2]; exact fr_grow W q os⟩)
  have HR : Hid (decide (cfI a b < 0) = aheadI a b) := Lib.hid (by rw [Bool.eq_iff_iff, decide_eq_true_iff, cfI_lt])
  generalize cfI a b = r at *
  generalize aheadI a b = s at *
  generalize a.1 = a1 at *
  generalize a.2 = a2 at *
  generalize b.1 = b1 at *
  generalize b.2 = b2 at *
  go_enter Tryz.func38, Tryz.ntmps38
  go_wp2_with (go_at_call 78; (with_reducible refine (HC.out _).mono ?_); rintro _ w3 ⟨rfl, hf3⟩; have HF3 := Lib.hid hf3; clear hf3)
  go_ret
  exact ⟨by first | rfl | (rw [← HR.out]; rfl), (((Fr.refl _ _).alloc _).alloc _).trans HF3.out⟩
theorem rightInst_any (i : In2) (W : World) : Calls Tryz.prog 42 #[.agg #[.int .i64 i.1, .int .i64 i.2]] W fun e w' => e = .returned (.bool (rightI i)) ∧ Fr No W w' := by
  obtain ⟨s, hs⟩ : ∃ s, s = rightI i := ⟨_, rfl⟩
  rw [← hs]
  have HS : Hid (s = decide (0 ≤ i.1 ∧ i.1 ≤ 6 ∧ 1 ≤ i.2 ∧ i.2 ≤ 10000)) := Lib.hid hs
  clear hs
  generalize i.1 = a at *
  generalize i.2 = b at *
  by_cases h1 : 0 ≤ a
  · by_cases h2 : a < 7
    · by_cases h3 : 1 ≤ b
      · by_cases h4 : b ≤ 10000
        · have e : s = true := by rw [HS.out]; exact decide_eq_true (by omega)
          subst e
          clear HS
          have g1 : decide (0 ≤ a) = true := decide_eq_true h1
          have g2 : decide (a < 7) = true := decide_eq_true h2
          have g3 : decide (1 ≤ b) = true := decide_eq_true h3
          have g4 : decide (b ≤ 10000) = true := decide_eq_true h4
          go_enter Tryz.func42, Tryz.ntmps42
          go_wp2
          go_ret
          exact ⟨by first | rfl | simp [h4], (Fr.refl _ _).alloc _⟩
        · have e : s = false := by rw [HS.out]; exact decide_eq_false (by omega)
          subst e
          clear HS
          have g1 : decide (0 ≤ a) = true := decide_eq_true h1
          have g2 : decide (a < 7) = true := decide_eq_true h2
          have g3 : decide (1 ≤ b) = true := decide_eq_true h3
          have g4 : decide (b ≤ 10000) = false := decide_eq_false h4
          go_enter Tryz.func42, Tryz.ntmps42
          go_wp2
          go_ret
          exact ⟨by first | rfl | simp [h4], (Fr.refl _ _).alloc _⟩
      · have e : s = false := by rw [HS.out]; exact decide_eq_false (by omega)
        subst e
        clear HS
        have g1 : decide (0 ≤ a) = true := decide_eq_true h1
        have g2 : decide (a < 7) = true := decide_eq_true h2
        have g3 : decide (1 ≤ b) = false := decide_eq_false h3
        go_enter Tryz.func42, Tryz.ntmps42
        go_wp2
        go_ret
        exact ⟨rfl, (Fr.refl _ _).alloc _⟩
    · have e : s = false := by rw [HS.out]; exact decide_eq_false (by omega)
      subst e
      clear HS
      have g1 : decide (0 ≤ a) = true := decide_eq_true h1
      have g2 : decide (a < 7) = false := decide_eq_false h2
      go_enter Tryz.func42, Tryz.ntmps42
      go_wp2
      go_ret
      exact ⟨rfl, (Fr.refl _ _).alloc _⟩
  · have e : s = false := by rw [HS.out]; exact decide_eq_false (by omega)
    subst e
    clear HS
    have g1 : decide (0 ≤ a) = false := decide_eq_false h1
    go_enter Tryz.func42, Tryz.ntmps42
    go_wp2
    go_ret
    exact ⟨rfl, (Fr.refl _ _).alloc _⟩
end Go.Proofs.YtcpgamidimfflaaGreat
namespace Go.My
open Go
set_option linter.unusedVariables false
structure WIn (D : World → Prop) where
  W : World
  h : D W
theorem wp_region_in {P : Program} {D : World → Prop} {id : Nat} {Q : Exit → Act → World → Prop} {a : Act} {w : World} {l : List Oper} (hm : P.follows .mixedOrders = true) (hB : Region.lexB .any l.toArray = true) (hD : D w.drew)
    (h : wpQuiet P l.toArray (fun w' => ∃ x : WIn D, w' = x.W) (fun a' => ∀ w', (∃ x : WIn D, w' = x.W) → Q .normal a' w') l a) : (Code.region id l.toArray true).wp P Q a w :=
  wp_region_quiet (C := fun w' => ∃ x : WIn D, w' = x.W) hm hB ⟨⟨_, hD⟩, rfl⟩ (by simpa using h)
theorem Calls.in_of {P : Program} {D : World → Prop} {f : FuncId} {args : Array Value} {v : Value} (x : WIn D) (h : ∀ W, D W → Calls P f args W fun e w' => e = .returned v ∧ D w') :
    Calls P f args x.W fun e w' => e = .returned v ∧ ∃ y : WIn D, w' = y.W :=
  (h x.W x.h).mono fun _ w' h => ⟨h.1, ⟨w', h.2⟩, rfl⟩
end Go.My
namespace Go.Proofs.YtcpgamidimfflaaGreat
open Go.RowKit Go.My Go.Maps Go.WideMaps
set_option linter.unusedSimpArgs false
set_option linter.unusedVariables false
attribute [local go_sem ↓] Go.wp_at_zero Go.wp_at_succ
theorem in2_at {w : World} {F : Nat → Prop} {A : Option Addr} {L : List In2} (h : Rd w F 2 A L.length (ins2 L)) (k : Nat) (hk : k < L.length) :
    ∃ ad, A = some ad ∧ F ad.block ∧ w.cell? (ad.add (k * 2)) = some (.int .i64 L[k].1) ∧ w.cell? ⟨(ad.add (k * 2)).block, (ad.add (k * 2)).off + 1, none⟩ = some (.int .i64 L[k].2) := by
  obtain ⟨ad, rfl, hF, hc⟩ := h.2 (by omega)
  have hg : ∀ i, i < 2 → (ins2 L)[k * 2 + i]? = (encI L[k])[i]? := fun i hi => by
    rw [ins2_at L (k * 2 + i) (by omega), show (k * 2 + i) / 2 = k by omega, show (k * 2 + i) % 2 = i by omega, List.getElem!_eq_getElem?_getD, List.getElem?_eq_getElem hk]
    rfl
  refine ⟨ad, rfl, hF, hc (k * 2) _ (by have := hg 0 (by omega); rw [Nat.add_zero] at this; rw [this]; rfl), ?_⟩
  rw [← add_lits ad (k * 2) 1 (by omega)]
  exact hc _ _ (by rw [hg 1 (by omega)]; rfl)
def okDs (own : In2) (ds : List In2) (k : Nat) : Prop := ∀ (j : Nat) (hj : j < ds.length), j < k → rightI ds[j] = true ∧ ds[j] ≠ own ∧ ∀ h0 : 0 < j, aheadI ds[j - 1] ds[j] = true
noncomputable instance (own : In2) (ds : List In2) (k : Nat) : Decidable (okDs own ds k) := Classical.propDecidable _
noncomputable def dsB (own : In2) (ds : List In2) : Bool := decide (okDs own ds ds.length)
theorem okDs_zero (own : In2) (ds : List In2) : okDs own ds 0 := fun j _ h => absurd h (Nat.not_lt_zero _)
theorem okDs_next {own : In2} {ds : List In2} {k : Nat} (hk : k < ds.length) (h : okDs own ds k) (h1 : rightI ds[k] = true) (h2 : ds[k] ≠ own) (h3 : ∀ h0 : 0 < k, aheadI ds[k - 1] ds[k] = true) : okDs own ds (k + 1) := fun j hj hjk => by
  rcases Nat.lt_or_ge j k with c | c
  · exact h j hj c
  · obtain rfl : j = k := by omega
    exact ⟨h1, h2, h3⟩
theorem dsB_no {own : In2} {ds : List In2} {k : Nat} (hk : k < ds.length) (h : ¬ (rightI ds[k] = true ∧ ds[k] ≠ own ∧ ∀ h0 : 0 < k, aheadI ds[k - 1] ds[k] = true)) : dsB own ds = false := by
  unfold dsB
  exact decide_eq_false fun e => h (e k hk hk)
theorem dsB_yes {own : In2} {ds : List In2} (h : okDs own ds ds.length) : dsB own ds = true := by
  unfold dsB
  exact decide_eq_true h
theorem dsB_iff (own : In2) (ds : List In2) : dsB own ds = true ↔ okDs own ds ds.length := by
  unfold dsB
  exact decide_eq_true_iff
theorem dsB_rise {own : In2} {ds : List In2} (h : dsB own ds = true) : RiseI ds ∧ ∀ d ∈ ds, rightI d = true ∧ d ≠ own := by
  rw [dsB_iff] at h
  refine ⟨?_, fun d hd => ?_⟩
  · unfold RiseI
    rw [List.pairwise_iff_getElem]
    intro i j hi hj hij
    have key : ∀ m (hm : i + m + 1 < ds.length), aheadI ds[i] ds[i + m + 1] = true := by
      intro m
      induction m with
      | zero =>
        intro hm
        have h1 := (h (i + 1) hm (by omega)).2.2 (by omega)
        simpa using h1
      | succ m ih =>
        intro hm
        have h1 := (h (i + (m + 1) + 1) hm (by omega)).2.2 (by omega)
        have h2 := ih (by omega)
        have e : i + (m + 1) + 1 - 1 = i + m + 1 := by omega
        simp only [e] at h1
        exact aheadI_trans h2 h1
    obtain ⟨m, rfl⟩ : ∃ m, j = i + m + 1 := ⟨j - i - 1, by omega⟩
    exact key m hj
  · obtain ⟨i, hi, rfl⟩ := List.mem_iff_getElem.1 hd
    exact ⟨(h i hi hi).1, (h i hi hi).2.1⟩
theorem eq_in (a b c d : Int) (W : World) (h : ¬ (a = c ∧ b = d)) : (binOp .eql 30 (.agg #[.int .i64 a, .int .i64 b]) (.agg #[.int .i64 c, .int .i64 d])).run Tryz.prog W = .ok (.bool false) W := by
  simp [go_sem]
  intro h1 h2
  exact h ⟨h1, h2⟩
def DsRel (own : In2) (ds : List In2) (w1 : World) (iv : Value) (wr : World) : Prop := ∃ k : Nat, k ≤ ds.length ∧ iv = .int .i64 (k : Int) ∧ okDs own ds k ∧ Fr No w1 wr
set_option maxRecDepth 100000 in
set_option maxHeartbeats 2000000 in
theorem rightDeps_any (own : In2) (F : Nat → Prop) (A : Option Addr) (c : Nat) (ds : List In2) (w : World) (hr : Rd w F 2 A ds.length (ins2 ds)) (hl : ds.length ≤ 1000000) :
    Calls Tryz.prog 44 #[.agg #[.int .i64 own.1, .int .i64 own.2], .slice A ds.length c] w fun e w' => e = .returned (.bool (dsB own ds)) ∧ Fr No w w' := by
  obtain ⟨res, hres⟩ : ∃ res, res = dsB own ds := ⟨_, rfl⟩
  rw [← hres]
  have HRES := Lib.hid hres
  have HR := Lib.hid hr
  have HRI : Hid (∀ (d : In2) W, Calls Tryz.prog 42 #[.agg #[.int .i64 d.1, .int .i64 d.2]] W fun e w' => e = .returned (.bool (rightI d)) ∧ Fr No W w') := Lib.hid (fun d W => rightInst_any d W)
  have HAH : Hid (∀ (a b : In2) W, Calls Tryz.prog 38 #[.agg #[.int .i64 a.1, .int .i64 a.2], .agg #[.int .i64 b.1, .int .i64 b.2]] W fun e w' => e = .returned (.bool (aheadI a b)) ∧ Fr No W w') := Lib.hid (fun a b W => ahead14_any a b W)
  obtain ⟨o1, o2⟩ := own
  have HOB := Lib.hid (Blk.new w 30 #[.int .i64 o1, .int .i64 o2])
  have HF0 : Hid (Fr No w (w.alloc (.cells #[.int .i64 o1, .int .i64 o2] 30))) := Lib.hid ((Fr.refl _ _).alloc _)
  clear hr hres
  go_enter Tryz.func44, Tryz.ntmps44
  go_wp2
  generalize w.alloc (.cells #[.int .i64 o1, .int .i64 o2] 30) = w1 at *
  generalize w.heap.size = q1 at *
  go_loopw [9] (fun iv wr => DsRel (o1, o2) ds w1 iv wr) (fun iv _ => ds.length - (intOf iv).toNat)
  case atStart => exact ⟨0, Nat.zero_le _, rfl, okDs_zero _ _, Fr.refl _ _⟩
  case round =>
    obtain ⟨k, hk, rfl, hok, hf⟩ := hrel
    have HOK := Lib.hid hok
    have HF := Lib.hid hf
    clear hok hf
    by_cases hlt : k < ds.length
    · have hltI : (k : Int) < (ds.length : Int) := by omega
      obtain ⟨ad, rfl, _, p0, p1⟩ := in2_at (HR.out.fr (by decide : 0 < 2) (HF0.out.trans HF.out) (fun _ _ _ h => h)) k hlt
      have HPRE : Hid (∀ k0, (e0 : k = k0 + 1) → ∃ (e : In2), e = ds[k0]'(by omega) ∧ ∀ W, Fr No wr W → W.cell? (ad.add (k0 * 2)) = some (.int .i64 e.1) ∧ W.cell? ⟨(ad.add (k0 * 2)).block, (ad.add (k0 * 2)).off + 1, none⟩ = some (.int .i64 e.2)) := Lib.hid (fun k0 e => by
        obtain ⟨ad2, h1, _, h2, h3⟩ := in2_at (HR.out.fr (by decide : 0 < 2) (HF0.out.trans HF.out) (fun _ _ _ h => h)) k0 (by omega)
        injection h1 with h1
        subst h1
        exact ⟨_, rfl, fun W hW => ⟨hW.cell_some h2 (fun h => h), hW.cell_some h3 (fun h => h)⟩⟩)
      have HNO : Hid (¬ (rightI ds[k] = true ∧ ds[k] ≠ (o1, o2) ∧ ∀ h0 : 0 < k, aheadI ds[k - 1] ds[k] = true) → res = false) := Lib.hid (fun h => HRES.out.trans (dsB_no hlt h))
      have HYES : Hid (rightI ds[k] = true → ds[k] ≠ (o1, o2) → (∀ h0 : 0 < k, aheadI ds[k - 1] ds[k] = true) → okDs (o1, o2) ds (k + 1)) := Lib.hid (fun h1 h2 h3 => okDs_next hlt HOK.out h1 h2 h3)
      obtain ⟨d, hd⟩ : ∃ d, d = ds[k] := ⟨_, rfl⟩
      rw [← hd] at p0 p1
      have HD := Lib.hid hd
      clear hd
      obtain ⟨d1, d2⟩ := d
      simp only at p0 p1
      go_upto_region 4 with (fail)
      have hbx := Blk.new wr 30 #[.int .i64 d1, .int .i64 d2]
      have HF2 : Hid (Fr No wr (wr.alloc (.cells #[.int .i64 d1, .int .i64 d2] 30))) := Lib.hid ((Fr.refl _ _).alloc _)
      generalize wr.alloc (.cells #[.int .i64 d1, .int .i64 d2] 30) = w2 at *
      generalize wr.heap.size = q2 at *
      have x0 := fun x : WIn (Fr No w2) => (hbx.fr x.h (fun h => h)).cell 0
      have x1 := fun x : WIn (Fr No w2) => (hbx.fr x.h (fun h => h)).cell 1
      have o0 := fun x : WIn (Fr No w2) => (HOB.out.fr (HF.out.trans (HF2.out.trans x.h)) (fun h => h)).cell 0
      have o9 := fun x : WIn (Fr No w2) => (HOB.out.fr (HF.out.trans (HF2.out.trans x.h)) (fun h => h)).cell 1
      simp only [List.getElem?_toArray, List.getElem?_cons_zero, List.getElem?_cons_succ] at x0 x1 o0 o9
      haveI : Nonempty (WIn (Fr No w2)) := ⟨⟨w2, Fr.refl _ _⟩⟩
      obtain ⟨b1, hb1⟩ : ∃ b1, b1 = rightI (d1, d2) := ⟨_, rfl⟩
      have HR1 : Hid (∀ W, Calls Tryz.prog 42 #[.agg #[.int .i64 d1, .int .i64 d2]] W fun e w' => e = .returned (.bool b1) ∧ Fr No W w') := Lib.hid (fun W => by rw [hb1]; exact HRI.out (d1, d2) W)
      have HB1 := Lib.hid hb1
      clear hb1 p0 p1 hbx
      cases b1 with
      | false =>
        have HRF : Hid (res = false) := Lib.hid (HNO.out fun e => by rw [← HD.out, ← HB1.out] at e; cases e.1)
        refine wp_region_in (D := Fr No w2) (by kernel_rfl) (by kernel_rfl) (Fr.refl _ _).drew ?_
        repeat (go_big_quiet_step (first | (go_at_call 42; refine Calls.in_of (v := .bool false) _ fun W hW => ?_; (with_reducible refine (HR1.out W).mono ?_); exact fun _ _ h => ⟨h.1, Fr.trans hW h.2⟩)))
        refine wpQuiet_nil ?_
        rintro _ ⟨⟨wq, hq⟩, rfl⟩
        go_wp2
        go_ret
        exact ⟨by rw [HRF.out]; rfl, (HF0.out.trans HF.out).trans (HF2.out.trans hq)⟩
      | true =>
        by_cases h2 : d1 = o1 ∧ d2 = o2
        · obtain ⟨rfl, rfl⟩ := h2
          have HRF : Hid (res = false) := Lib.hid (HNO.out fun e => e.2.1 HD.out.symm)
          refine wp_region_in (D := Fr No w2) (by kernel_rfl) (by kernel_rfl) (Fr.refl _ _).drew ?_
          repeat (go_big_quiet_step (first | (go_at_call 42; refine Calls.in_of (v := .bool true) _ fun W hW => ?_; (with_reducible refine (HR1.out W).mono ?_); exact fun _ _ h => ⟨h.1, Fr.trans hW h.2⟩)))
          refine wpQuiet_nil ?_
          rintro _ ⟨⟨wq, hq⟩, rfl⟩
          go_wp2
          go_ret
          exact ⟨by rw [HRF.out]; rfl, (HF0.out.trans HF.out).trans (HF2.out.trans hq)⟩
        · have hne := fun W => eq_in d1 d2 o1 o2 W h2
          have HNE : Hid (ds[k] ≠ (o1, o2)) := Lib.hid (fun e => h2 (by rw [← HD.out] at e; exact ⟨congrArg Prod.fst e, congrArg Prod.snd e⟩))
          by_cases hk0 : 0 < k
          · obtain ⟨k0, hk0e⟩ : ∃ k0, k = k0 + 1 := ⟨k - 1, by omega⟩
            obtain ⟨e, he, hce⟩ := HPRE.out k0 hk0e
            obtain ⟨b2, hb2⟩ : ∃ b2, b2 = aheadI e (d1, d2) := ⟨_, rfl⟩
            have HPV : Hid (ds[k - 1] = e) := Lib.hid (by rw [he]; congr 1; omega)
            have HA1 : Hid (∀ W, Calls Tryz.prog 38 #[.agg #[.int .i64 e.1, .int .i64 e.2], .agg #[.int .i64 d1, .int .i64 d2]] W fun e w' => e = .returned (.bool b2) ∧ Fr No W w') := Lib.hid (fun W => by rw [hb2]; exact HAH.out e (d1, d2) W)
            have HB2 := Lib.hid hb2
            have z0 := fun x : WIn (Fr No w2) => (hce x.W (HF2.out.trans x.h)).1
            have z1 := fun x : WIn (Fr No w2) => (hce x.W (HF2.out.trans x.h)).2
            have hkg : (k : Int) > 0 := by omega
            have hkd : decide ((0 : Int) < (k : Int)) = true := decide_eq_true (by omega)
            have hkm : wrap64 ((k : Int) - 1) = (k0 : Int) := by rw [hk0e]; unfold wrap64; omega
            have hkm2 : (k : Int) - 1 = (k0 : Int) := by omega
            have hk0I : (k0 : Int) < (ds.length : Int) := by omega
            have hk0n : ¬ (k0 : Int) < 0 := by omega
            clear he hb2 hce
            generalize e.1 = e1 at *
            generalize e.2 = e2 at *
            cases b2 with
            | false =>
              have HRF : Hid (res = false) := Lib.hid (HNO.out fun h => by have h3 := h.2.2 (by omega); rw [HPV.out, ← HD.out, ← HB2.out] at h3; cases h3)
              refine wp_region_in (D := Fr No w2) (by kernel_rfl) (by kernel_rfl) (Fr.refl _ _).drew ?_
              repeat (go_big_quiet_step (first | (go_at_call 42; refine Calls.in_of (v := .bool true) _ fun W hW => ?_; (with_reducible refine (HR1.out W).mono ?_); exact fun _ _ h => ⟨h.1, Fr.trans hW h.2⟩) | (go_at_call 38; refine Calls.in_of (v := .bool false) _ fun W hW => ?_; (with_reducible refine (HA1.out W).mono ?_); exact fun _ _ h => ⟨h.1, Fr.trans hW h.2⟩)))
              refine wpQuiet_nil ?_
              rintro _ ⟨⟨wq, hq⟩, rfl⟩
              go_wp2
              go_ret
              exact ⟨by rw [HRF.out]; rfl, (HF0.out.trans HF.out).trans (HF2.out.trans hq)⟩
            | true =>
              have HOK2 : Hid (okDs (o1, o2) ds (k + 1)) := Lib.hid (HYES.out (by rw [← HD.out]; exact HB1.out.symm) HNE.out fun _ => by rw [HPV.out, ← HD.out]; exact HB2.out.symm)
              refine wp_region_in (D := Fr No w2) (by kernel_rfl) (by kernel_rfl) (Fr.refl _ _).drew ?_
              repeat (go_big_quiet_step (first | (go_at_call 42; refine Calls.in_of (v := .bool true) _ fun W hW => ?_; (with_reducible refine (HR1.out W).mono ?_); exact fun _ _ h => ⟨h.1, Fr.trans hW h.2⟩) | (go_at_call 38; refine Calls.in_of (v := .bool true) _ fun W hW => ?_; (with_reducible refine (HA1.out W).mono ?_); exact fun _ _ h => ⟨h.1, Fr.trans hW h.2⟩)))
              refine wpQuiet_nil ?_
              rintro _ ⟨⟨wq, hq⟩, rfl⟩
              go_wp2
              go_roundw
              case rel => exact ⟨k + 1, hlt, by first | go_num | simp | rfl, HOK2.out, HF.out.trans (HF2.out.trans hq)⟩
              case measure => simp [intOf]; omega
          · have hkz : ¬ (k : Int) > 0 := by omega
            have hkd : decide ((0 : Int) < (k : Int)) = false := decide_eq_false (by omega)
            have HOK2 : Hid (okDs (o1, o2) ds (k + 1)) := Lib.hid (HYES.out (by rw [← HD.out]; exact HB1.out.symm) HNE.out fun h => absurd h hk0)
            refine wp_region_in (D := Fr No w2) (by kernel_rfl) (by kernel_rfl) (Fr.refl _ _).drew ?_
            repeat (go_big_quiet_step (first | (go_at_call 42; refine Calls.in_of (v := .bool true) _ fun W hW => ?_; (with_reducible refine (HR1.out W).mono ?_); exact fun _ _ h => ⟨h.1, Fr.trans hW h.2⟩)))
            refine wpQuiet_nil ?_
            rintro _ ⟨⟨wq, hq⟩, rfl⟩
            go_wp2
            go_roundw
            case rel => exact ⟨k + 1, hlt, by first | go_num | simp | rfl, HOK2.out, HF.out.trans (HF2.out.trans hq)⟩
            case measure => simp [intOf]; omega
    · obtain rfl : k = ds.length := by omega
      have HE : Hid (res = true) := Lib.hid (HRES.out.trans (dsB_yes HOK.out))
      go_wp2
      go_ret
      exact ⟨by rw [HE.out]; rfl, HF0.out.trans HF.out⟩
end Go.Proofs.YtcpgamidimfflaaGreat
namespace Go.My
open Go Go.RowKit Go.Maps
set_option linter.unusedSimpArgs false
set_option linter.unusedVariables false
def heldR (v : Value) : Option (DataW Value × List MemPlace) := some (.held v, [])
theorem isKey_int (k : Int) : WideAt.IsKeyLit (.int .i64 k) := by unfold WideAt.IsKeyLit; exact True.intro
def Tab (P : Program) (kt : TypeId) (w : World) (m n : Nat) (f : Int → Option Value) : Prop :=
  ∃ D : DataW Value, w.ownsMap P kt heldR m n D ∧ Tidy D ∧ (∀ k, In64 k → Maps.has D (.int .i64 k) = (f k).isSome) ∧ ∀ k, In64 k → ∀ z, D.atKey (.int .i64 k) z = match f k with | some v => .held v | none => z
section
variable {P : Program} {kt : TypeId} {w w' : World} {m n : Nat} {f : Int → Option Value}
theorem Tab.lt (h : Tab P kt w m n f) : m < w.heap.size := by obtain ⟨D, h, _⟩ := h; exact h.lt
theorem Tab.fr {F : Nat → Prop} (h : Tab P kt w m n f) (hf : Fr F w w') (hn : ¬ F m) : Tab P kt w' m n f := by
  obtain ⟨D, ⟨es, clock, hb, r⟩, r2⟩ := h
  exact ⟨D, ⟨es, clock, (hf.block m (Array.getElem?_eq_some_iff.1 hb).1 hn).trans hb, r⟩, r2⟩
theorem Tab.made (w : World) : Tab P kt (w.alloc (.map #[] 0)) w.heap.size 0 (fun _ => none) :=
  ⟨.map [], World.ownsMap_made _ _ _ _, tidy_empty, fun _ _ => rfl, fun _ _ _ => rfl⟩
theorem key_i64 (hk : P.underlying kt = some (.int .i64)) {k : Int} (h : In64 k) : keyOf P kt (.int .i64 k) = some (.int .i64 k) := by
  refine keyOf_int_mk hk ?_
  unfold In64 at h
  unfold Lit.wf IntKind.min IntKind.max
  simp [IntKind.signed, IntKind.bits]
  omega
theorem Tab.put (h : Tab P kt w m n f) (hk : P.underlying kt = some (.int .i64)) {t e : TypeId} (ht : P.underlying t = some (.map kt e)) (hn : n < maxLen) (k : Int) (hK : In64 k) (v : Value) :
    ∃ w', (Instr.mapUpdate t (.map (some m)) (.int .i64 k) v).run P w = .ok () w' ∧ Tab P kt w' m (n + 1) (fun j => if j = k then some v else f j) ∧ Fr (At1 m) w w' := by
  obtain ⟨D, ho, hT, hh, ha⟩ := h
  obtain ⟨w', hrun, hown, hg⟩ := ho.update (int_keyed hk) ht hn (key_i64 hk hK) (show heldR v = some (.held v, []) from rfl)
  refine ⟨w', hrun, ⟨_, hown, hT.put (isKey_int k) _, fun j hj => ?_, fun j hj z => ?_⟩, ⟨hg.os, hg.tape, hg.output, hg.size, fun i hi hn => hg.block i hi (fun e => hn (by injection e with e))⟩⟩
  · by_cases e : j = k
    · subst e
      rw [has_put_same hT.isMap (isKey_int _)]
      simp
    · rw [has_put_other (fun e2 => e (by injection e2)), hh j hj]
      simp [e]
  · by_cases e : j = k
    · subst e
      rw [atKey_put_same hT.isMap (isKey_int _)]
      simp
    · rw [atKey_put_other (fun e2 => e (by injection e2)), ha j hj z]
      simp [e]
theorem Tab.look_ok (h : Tab P kt w m n f) (hk : P.underlying kt = some (.int .i64)) {t e : TypeId} (ht : P.underlying t = some (.map kt e)) {z : Value} (hz : (zeroValue e).run P w = .ok z w) (k : Int) (hK : In64 k) :
    (Instr.lookup t (.map (some m)) (.int .i64 k) true).run P w = .ok (.tuple #[(f k).getD z, .bool (f k).isSome]) w := by
  obtain ⟨D, ho, hT, hh, ha⟩ := h
  obtain ⟨v, ps, hrun, hv⟩ := ho.look_ok (int_keyed hk) ht hz (show heldR z = some (.held z, []) from rfl) (key_i64 hk hK)
  rw [hh k hK] at hrun
  rw [ha k hK] at hv
  cases hf : f k with
  | none =>
    rw [hf] at hrun hv
    injection hv with hv
    injection hv with hv _
    injection hv with hv
    rw [hrun, hv]
    rfl
  | some u =>
    rw [hf] at hrun hv
    injection hv with hv
    injection hv with hv _
    injection hv with hv
    rw [hrun, hv]
    rfl
theorem Tab.look (h : Tab P kt w m n f) (hk : P.underlying kt = some (.int .i64)) {t e : TypeId} (ht : P.underlying t = some (.map kt e)) {z : Value} (hz : (zeroValue e).run P w = .ok z w) (k : Int) (hK : In64 k) :
    (Instr.lookup t (.map (some m)) (.int .i64 k) false).run P w = .ok ((f k).getD z) w := by
  obtain ⟨D, ho, hT, hh, ha⟩ := h
  obtain ⟨v, ps, hrun, hv⟩ := ho.lookup (int_keyed hk) ht hz (show heldR z = some (.held z, []) from rfl) (key_i64 hk hK)
  rw [ha k hK] at hv
  cases hf : f k with
  | none =>
    rw [hf] at hv
    injection hv with hv
    injection hv with hv _
    injection hv with hv
    rw [hrun, hv]
    rfl
  | some u =>
    rw [hf] at hv
    injection hv with hv
    injection hv with hv _
    injection hv with hv
    rw [hrun, hv]
    rfl
end
end Go.My
namespace Go.Proofs.YtcpgamidimfflaaGreat
open Go.RowKit Go.My Go.Maps
set_option linter.unusedSimpArgs false
set_option linter.unusedVariables false
structure Lg where
  acct : ByteArray
  sum : Int
def Lg.nm (g : Lg) : List UInt8 := g.acct.data.toList
def Lg.ok (g : Lg) : Prop := g.acct.size ≤ maxLen ∧ In64 g.sum
def sums (L : List Lg) : List Int := L.map Lg.sum
def rightB (L : List Lg) : Bool := decide (2 ≤ L.length) && decide (L.length ≤ 6) && L.all (fun g => nameB g.nm && decide (g.sum ≠ 0)) && decide ((L.map Lg.nm).Nodup)
def okLg (g : Lg) : Bool := nameB g.nm && decide (g.sum ≠ 0)
theorem rightB_bad {L : List Lg} {k : Nat} (hk : k < L.length) (h : okLg L[k] = false) : rightB L = false := by
  unfold rightB
  have : L.all (fun g => nameB g.nm && decide (g.sum ≠ 0)) = false := by
    rw [List.all_eq_false]
    exact ⟨L[k], List.getElem_mem hk, by show ¬ okLg L[k] = true; rw [h]; decide⟩
  rw [this]
  simp
theorem rightB_len {L : List Lg} (h : ¬ (2 ≤ L.length ∧ L.length ≤ 6)) : rightB L = false := by
  unfold rightB
  by_cases h2 : 2 ≤ L.length
  · have : ¬ L.length ≤ 6 := fun h6 => h ⟨h2, h6⟩
    simp [this]
  · simp [h2]
def RdLg (cs : List Value) (g : Lg) : Prop := cs = [.string g.acct, .int .i64 g.sum] ∧ g.ok
section
open Go.ChangeShapes Go.WideShapes
variable {H : Type} {enc : TypeId × Value → H} {w : World} {base : Nat} {spare : Nat → Bool} {held : Bool}
set_option maxRecDepth 100000 in
theorem open_leg {n : Nat} {cs : List Value} {x : DataW H × List MemPlace} (h : DataW.trod enc Tryz.prog w base spare held n 152 cs = some x) : ∃ o, RdLg cs o := by
  obtain ⟨xs, m, _, _, hl, _, hf⟩ := DataW.trod_struct Tryz.underlying152 h
  have hC : Tryz.prog.cellsOf 152 = 2 := by kernel_rfl
  have CS : Tryz.prog.cellsOf 9 = 1 := by kernel_rfl
  have C2 : Tryz.prog.cellsOf 2 = 1 := by kernel_rfl
  rw [hC] at hl
  match cs, hl with
  | [v0, v1], _ =>
    have f0 : DataW.trod enc Tryz.prog w base spare held m 9 [v0] = xs[0]? := by have := hf 0 _ rfl; simpa [CS] using this
    have f1 : DataW.trod enc Tryz.prog w base spare held m 2 [v1] = xs[1]? := by have := hf 1 _ rfl; simpa [CS, C2] using this
    have g : ∀ i, i < xs.length → ∃ y, xs[i]? = some y := fun i hi => ⟨xs[i], List.getElem?_eq_getElem hi⟩
    have hxl : xs.length = 2 := by assumption
    obtain ⟨y0, e0⟩ := g 0 (by omega)
    obtain ⟨y1, e1⟩ := g 1 (by omega)
    rw [e0] at f0; rw [e1] at f1
    obtain ⟨s, hs, _, ws⟩ := DataW.trod_string Tryz.underlying9 f0
    obtain ⟨a, ha, _, wa⟩ := DataW.trod_int Tryz.underlying2 f1
    simp only [List.cons.injEq, and_true] at hs ha
    subst hs ha
    exact ⟨⟨s, a⟩, rfl, ws, bounds_i64 wa⟩
end
theorem each_nth {X : Type} {R : List Value → X → Prop} {size : Nat} {cells : List Value} {T : List X} (hE : Each R size cells T) (k : Nat) (hk : k < T.length) : R ((cells.drop (k * size)).take size) T[k] := hE.2 k T[k] (List.getElem?_eq_getElem hk)
theorem nth_cells {cells : List Value} {size k : Nat} {cs : List Value} (h : (cells.drop (k * size)).take size = cs) (j : Nat) (hj : j < size) : cells[k * size + j]? = cs[j]? := by
  rw [← h, List.getElem?_take, if_pos hj, List.getElem?_drop]
theorem lg_at {w : World} {F : Nat → Prop} {A : Option Addr} {n : Nat} {cells : List Value} {T : List Lg} (h : Rd w F 2 A n cells) (hE : Each RdLg 2 cells T) (k : Nat) (hkn : k < n) (hk : k < T.length) :
    ∃ ad, A = some ad ∧ F ad.block ∧ T[k].ok ∧ w.cell? (ad.add (k * 2)) = some (.string T[k].acct) ∧ w.cell? ⟨(ad.add (k * 2)).block, (ad.add (k * 2)).off + 1, none⟩ = some (.int .i64 T[k].sum) := by
  obtain ⟨ad, rfl, hF, hc⟩ := h.2 (by omega)
  obtain ⟨hcs, hok⟩ := each_nth hE k hk
  refine ⟨ad, rfl, hF, hok, hc (k * 2) _ (by have := nth_cells hcs 0 (by omega); rw [Nat.add_zero] at this; rw [this]; rfl), ?_⟩
  rw [← add_lits ad (k * 2) 1 (by omega)]
  exact hc _ _ (by rw [nth_cells hcs 1 (by omega)]; rfl)
end Go.Proofs.YtcpgamidimfflaaGreat
namespace Go.My
open Go Go.RowKit
set_option linter.unusedSimpArgs false
set_option linter.unusedVariables false
def unl (l : Array Bool) : Nat := l.countP (fun b => b == false)
theorem unl_set {l : Array Bool} {i : Nat} (h : l.getD i true = false) : unl (l.setIfInBounds i true) + 1 = unl l := by
  have hlt : i < l.size := by
    rcases Nat.lt_or_ge i l.size with h' | h'
    · exact h'
    · simp [h'] at h
  have hv : l[i] = false := by simpa [hlt] using h
  have e : l.setIfInBounds i true = l.set i true hlt := by simp [Array.setIfInBounds, hlt]
  unfold unl
  rw [e, Array.countP_set hlt, hv]
  simp only [beq_self_eq_true, if_true]
  have hpos : 0 < l.countP (fun b => b == false) := Array.countP_pos_iff.2 ⟨l[i], Array.getElem_mem hlt, by rw [hv]; rfl⟩
  have : (true == false) = false := rfl
  rw [this]
  simp only [Bool.false_eq_true, if_false]
  omega
theorem unl_zero {l : Array Bool} (h : unl l = 0) (i : Nat) : l.getD i true = true := by
  rcases Nat.lt_or_ge i l.size with h' | h'
  · have := Array.countP_eq_zero.1 h l[i] (Array.getElem_mem h')
    simpa [h'] using this
  · simp [h']
theorem unl_least {l : Array Bool} (h : unl l ≠ 0) : ∃ i, i < l.size ∧ l.getD i true = false ∧ ∀ j, j < i → l.getD j false = true := by
  obtain ⟨b, hb, hb2⟩ := Array.countP_pos_iff.1 (Nat.pos_of_ne_zero h)
  obtain ⟨k, hk, rfl⟩ := Array.getElem_of_mem hb
  have hk2 : l.getD k true = false := by simpa [hk] using hb2
  clear hb hb2 h
  induction k using Nat.strongRecOn with
  | _ k ih =>
    by_cases hx : ∃ j, j < k ∧ l.getD j false = false
    · obtain ⟨j, hj, hjf⟩ := hx
      have hjl : j < l.size := by omega
      exact ih j hj hjl (by simpa [hjl] using hjf)
    · refine ⟨k, hk, hk2, fun j hj => ?_⟩
      cases hq : l.getD j false with
      | true => rfl
      | false => exact absurd ⟨j, hj, hq⟩ hx
section
variable {P : Program} {ops : Array Oper} {Q : Exit → Act → World → Prop} {md : Region.Mode}
theorem wpAny_inv (Inv : Array Bool → Act → World → Prop) (hsz : ∀ l a w, Inv l a w → l.size = ops.size)
    (hback : ∀ i o, ops[i]? = some o → ∀ e ∈ o.after, Region.binds md e = true → e.on < i)
    (hstep : ∀ l a w i o, Inv l a w → ops[i]? = some o → l.getD i true = false → (∀ e ∈ o.after, Region.binds md e = true → l.getD e.on false = true) → wpOp P ops Q i (Inv (l.setIfInBounds i true)) a w)
    (hend : ∀ l a w, Inv l a w → (∀ i, i < ops.size → l.getD i false = true) → Q .normal a w) :
    ∀ fuel l a w, Inv l a w → unl l = fuel → wpAny P md ops Q fuel l a w := by
  intro fuel
  induction fuel with
  | zero =>
    intro l a w h hu
    refine ⟨?_, hend l a w h fun i hi => ?_⟩
    · cases hr : Region.ready md ops l with
      | nil => rfl
      | cons j t =>
        have hj : j ∈ Region.ready md ops l := by rw [hr]; exact List.mem_cons_self
        have h1 := (mem_ready.1 hj).1
        rw [unl_zero hu j] at h1
        cases h1
    · have h1 := unl_zero hu i
      have h2 : i < l.size := by rw [hsz l a w h]; exact hi
      simpa [h2] using h1
  | succ fuel ih =>
    intro l a w h hu
    refine ⟨fun hr => ?_, fun i hi => ?_⟩
    · obtain ⟨i, hi, hf, hlt⟩ := unl_least (l := l) (by omega)
      have hio : i < ops.size := by rw [← hsz l a w h]; exact hi
      have : i ∈ Region.ready md ops l := mem_ready.2 ⟨hf, ops[i], Array.getElem?_eq_getElem hio, fun e he hb => hlt _ (hback i _ (Array.getElem?_eq_getElem hio) e he hb)⟩
      rw [hr] at this
      cases this
    · obtain ⟨hf, o, ho, hall⟩ := mem_ready.1 hi
      refine wpOp_mono (fun a' w' h' => ih _ _ _ h' ?_) (hstep l a w i o h ho hf hall)
      have := unl_set hf
      omega
theorem wp_region_inv {id : Nat} {a : Act} {w : World} (hm : P.follows .mixedOrders = true) (Inv : Array Bool → Act → World → Prop) (hsz : ∀ l a w, Inv l a w → l.size = ops.size)
    (hback : ∀ i o, ops[i]? = some o → ∀ e ∈ o.after, Region.binds .any e = true → e.on < i)
    (hstep : ∀ l a w i o, Inv l a w → ops[i]? = some o → l.getD i true = false → (∀ e ∈ o.after, Region.binds .any e = true → l.getD e.on false = true) → wpOp P ops Q i (Inv (l.setIfInBounds i true)) a w)
    (hend : ∀ l a w, Inv l a w → (∀ i, i < ops.size → l.getD i false = true) → Q .normal a w)
    (h0 : Inv (Array.replicate ops.size false) a w.drew) : (Code.region id ops true).wp P Q a w := by
  refine wp_region_any hm (wpAny_inv Inv hsz hback hstep hend _ _ _ _ h0 ?_)
  unfold unl
  rw [Array.countP_replicate]
  simp
end
end Go.My
namespace Go.My
open Go
def findR (n : Nat) : Code → Option Code
  | .region i ops d => if i = n then some (.region i ops d) else none
  | .seq a b => match findR n a with
    | some c => some c
    | none => findR n b
  | .cond _ a b => match findR n a with
    | some c => some c
    | none => findR n b
  | .block _ c => findR n c
  | .loop c => findR n c
  | .scope c => findR n c
  | _ => none
def opsOf : Code → Array Oper
  | .region _ o _ => o
  | _ => #[]
def regOf (n : Nat) (f : Func) : Code := (f.body.bind (findR n)).getD .skip
end Go.My
