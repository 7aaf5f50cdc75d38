/- The walk depth first: a knot is tied. -/
import Derived.Test.YtcjofakhefpfdaaKnY0
import Derived.Test.YtcjofakhefpfdaaKnM7
namespace Go.Proofs.Ytcjofakhefpfdaa
open Go.RowKit Go.My Go.Maps
set_option linter.unusedSimpArgs false
set_option linter.unusedVariables false
attribute [local go_sem ↓] Go.wp_at_zero Go.wp_at_succ

def TieM (w3 : World) (s : Ts) (p : Wp) (n : Nat) (Z : List Nat) (iv : Value) (wr : World) : Prop := ∃ j : Nat, j ≤ Z.length ∧ iv = .int .i64 j ∧ Own wr 4 1 (.slice (some ⟨p.pb, 0, none⟩) n n) n (bl (offB s Z j) n) ∧ Fr (At1 p.pb) w3 wr
def TieRel (w : World) (a n : Nat) (iv : Value) (wr : World) : Prop := ∃ i : Nat, a ≤ i ∧ i < n ∧ iv = .int .i64 i ∧ w = wr

set_option maxRecDepth 100000 in
set_option maxHeartbeats 40000000 in
theorem tie_any (B : Nat) (w : World) (q : Nat) (p : Wp) (n : Nat) (G : List (List Int)) (s : Ts) (A Z : List Nat) (v : Nat) (h : WkS B w q p n G s) (hl : s.loose = A ++ v :: Z) (hv : v ∉ Z) (hnd : s.loose.Nodup) (hr : ∀ x ∈ v :: Z, x < n) (hn : n ≤ 1000) (hll : s.loose.length ≤ 1000) (hf : s.found.length ≤ 1000) :
    Calls Try.prog 35 #[.pointer (some ⟨q, 0, none⟩), .int .i64 (v : Int)] w fun e w' => e = .returned (.tuple #[]) ∧ ∃ K : List Nat, K.Pairwise (· < ·) ∧ (∀ x, x ∈ K ↔ x ∈ v :: Z) ∧ WkN B w q n G (s.tie A K) w' := by
  have k4 := h.blk.cell 4
  have k5 := h.blk.cell 5
  have k6 := h.blk.cell 6
  simp only [List.getElem?_toArray, List.getElem?_cons_zero, List.getElem?_cons_succ] at k4 k5 k6
  have z4 := h.blk.frozen 4
  have hlen : s.loose.length = A.length + 1 + Z.length := by rw [hl]; simp; omega
  have hrd := h.loose.rd
  have H := Lib.hid h
  have HR := Lib.hid hrd
  have hat : ∀ i, A.length ≤ i → i < s.loose.length → (i = A.length → s.loose[i]? = some v) ∧ (i ≠ A.length → ∃ y, s.loose[i]? = some y ∧ y ≠ v) := by
    intro i h1 h2
    rw [hl, List.getElem?_append_right h1]
    refine ⟨fun e => by subst e; simp, fun e => ?_⟩
    rw [show i - A.length = (i - A.length - 1) + 1 by omega, List.getElem?_cons_succ]
    have h3 : i - A.length - 1 < Z.length := by omega
    exact ⟨Z[i - A.length - 1], List.getElem?_eq_getElem h3, fun e2 => hv (by rw [← e2]; exact List.getElem_mem h3)⟩
  have HAT := Lib.hid hat
  have hw1 : wrap64 ((s.loose.length : Int) - 1) = ((s.loose.length - 1 : Nat) : Int) := by unfold wrap64; omega
  obtain ⟨la0, lc0, hlf, hlc, hcm⟩ := h.loose.form
  injection hlf with _ _ hlf
  subst hlf
  have HL := Lib.hid hl
  have HLEN := Lib.hid hlen
  have HV := Lib.hid hv
  have HND := Lib.hid hnd
  clear h hrd hat hl hlen hv hnd
  go_enter Try.func35, Try.ntmps35
  go_wp2
  go_loopw [4] (fun iv wr => TieRel w A.length s.loose.length iv wr) (fun iv _ => (intOf iv).toNat)
  case atStart => exact ⟨s.loose.length - 1, by have := HLEN.out; omega, by have := HLEN.out; omega, by rw [show ((s.loose.length - 1 : Nat) : Int) = (s.loose.length : Int) - 1 by have := HLEN.out; omega], rfl⟩
  case round =>
    obtain ⟨i, hi1, hi2, rfl, rfl⟩ := hrel
    obtain ⟨ad, e1, e2, e3⟩ := HR.out.2 (by have := HLEN.out; omega)
    by_cases hia : i = A.length
    · subst hia
      have hvv := (HAT.out A.length hi1 hi2).1 rfl
      have hc := e3 A.length (.int .i64 (v : Int)) (by rw [nl, List.getElem?_map, hvv]; rfl)
      have k4' := k4
      rw [e1] at k4
      have g1 : (A.length : Int) ≤ (s.loose.length : Int) := by omega
      have g2 : (s.loose.length : Int) ≤ (p.lc : Int) := by omega
      have hZl : (((v :: Z).map fun (x : Nat) => (x : Int))).length = s.loose.length - A.length := by rw [List.length_map, List.length_cons]; have := HLEN.out; omega
      have HCL : Hid (Calls Try.prog 32 #[.slice (some (ad.add A.length)) (s.loose.length - A.length) (p.lc - A.length)] w (RetOwn w 3 1 none (s.loose.length - A.length) (is_ ((v :: Z).map fun (x : Nat) => (x : Int))))) := Lib.hid (by
        have hcut := HR.out.cut (k := A.length) (by omega) hlc
        rw [if_neg (by omega), e1, Nat.mul_one] at hcut
        have hd : (nl s.loose).drop A.length = is_ ((v :: Z).map fun (x : Nat) => (x : Int)) := by
          rw [← nl_is, nl, ← List.map_drop, HL.out, List.drop_left]; rfl
        rw [hd] at hcut
        have := cloneI_any _ (some (ad.add A.length)) (p.lc - A.length) _ w (by rw [hZl]; exact hcut) (by rw [hZl]; omega)
        rw [hZl] at this
        exact this)
      generalize hzz : ((v :: Z).map fun (x : Nat) => (x : Int)) = zl at *
      go_wp2_with fail
      refine HCL.out.mono ?_
      rintro e w2 ⟨kv, rfl, hok, hfk0, hnk⟩
      have hfk := fr_at_none hfk0
      have hm0 : 0 < s.loose.length - A.length := by omega
      obtain ⟨kg, kc, kcur, rfl, hkb, hkc, hkm, _, _⟩ := hok.formPos hm0
      have hkn : w.heap.size ≤ kg := by
        rcases hnk with e | ⟨k, e, hk⟩
        · cases e
        · have e : some kg = some k := e
          injection e with e; omega
      have hb2 := H.out.blk.fr hfk (fun h => h)
      have y4 := hb2.cell 4
      simp only [List.getElem?_toArray, List.getElem?_cons_zero, List.getElem?_cons_succ, e1] at y4
      have yz := hb2.frozen 4
      have HB3 := Lib.hid (hb2.set_ 4 (.slice p.la A.length p.lc))
      obtain ⟨cu3, bs3⟩ := blk_pb H.out
      have e3' : q ≠ p.pb := Blk.ne_ H.out.blk bs3 (by decide)
      have hmk := (H.out.mark.fr hfk (fun _ _ h => h)).setCell (p := ⟨q, 4, none⟩) (by intro e; injection e with e; exact e3' e.symm) (.slice p.la A.length p.lc)
      have hok3 := hok.setCell (p := ⟨q, 4, none⟩) (by intro e; have e : some kg = some q := e; injection e with e; have := H.out.blk.lt; omega) (.slice p.la A.length p.lc)
      have HMK := Lib.hid hmk
      have HOK := Lib.hid hok3
      have HFK := Lib.hid hfk
      have g4 : (A.length : Int) ≤ (p.lc : Int) := by omega
      rw [e1] at HB3 HMK HOK
      clear hmk hok hok3 hfk hfk0 hb2 hnk
      go_wp2
      clear HR HAT HCL hvv hc k4' e2 e3 hi1 hi2 hw1 g1 g2 HLEN
      have hYn : 0 < (v :: Z).length := by rw [List.length_cons]; omega
      have hmY : s.loose.length - A.length = (v :: Z).length := by rw [HL.out, List.length_append]; omega
      generalize hYY : v :: Z = Y at *
      have HYY := Lib.hid hYY
      clear hYY
      have hmb : s.loose.length - A.length ≤ 1000 := by omega
      generalize s.loose.length - A.length = m at *
      have HZZ := Lib.hid hzz
      have HZL := Lib.hid hZl
      have HRG := Lib.hid hr
      have HMY := Lib.hid hmY
      have HYN := Lib.hid hYn
      clear hzz hZl hr hmY hYn
      go_loopw [7, 43] (fun xv iv wr => TieM (w2.setCell ⟨q, 4, none⟩ (.slice (some ad) A.length p.lc)) s p n Y iv wr) (fun _ iv _ => m - (intOf iv).toNat)
      case atStart => exact ⟨0, Nat.zero_le _, rfl, by rw [offB_zero]; exact HMK.out, Fr.refl _ _⟩
      case round =>
        obtain ⟨j, hj, rfl, hmj, hfj⟩ := hrel
        have hokj := HOK.out.fr hfj (fun k hk e => by
          have e : k = p.pb := e
          subst e
          exact HOK.out.ne_ (HMK.out.blk p.pb rfl).choose_spec (by decide) hk)
        have hbj := HB3.out.fr hfj (fun e => e3' e)
        have i5 := hbj.cell 5
        have i6 := hbj.cell 6
        have z6 := hbj.frozen 6
        simp [Array.getElem?_setIfInBounds] at i5 i6
        have HJ := Lib.hid hj
        clear hj
        by_cases hjm : j < m
        · have hjm2 : j < Y.length := by have := HMY.out; omega
          have hx : Y[j] < n := HRG.out _ (List.getElem_mem hjm2)
          have hcx : wr.cell? ⟨kg, j, none⟩ = some (.int .i64 (Y[j] : Int)) := by
            obtain ⟨ad2, e5, _, hce⟩ := hokj.rd.2 hm0
            injection e5 with e5
            subst e5
            have := hce j (.int .i64 (Y[j] : Int)) (by rw [← HZZ.out, ← nl_is]; exact nl_at _ _ hjm2)
            rwa [add_zero] at this
          obtain ⟨n1, ⟨yb, n2⟩, n3⟩ := hmj.store _ hx (.bool false)
          have HE : Hid (bl (upN (offB s Y j) Y[j] false) n = bl (offB s Y (j + 1)) n) := Lib.hid (offB_step s Y j n hjm2)
          rw [bl_set _ _ _ _ hx] at n1
          have HN1 := Lib.hid n1
          have g5 : (j : Int) < (m : Int) := by omega
          have g6 : (Y[j] : Int) < (n : Int) := by omega
          generalize Y[j] = x at *
          clear n1 hokj hbj hmj hjm2 i6 z6
          go_wp2
          go_roundw
          case rel => exact ⟨j + 1, by have := HMY.out; omega, by go_num, by rw [← HE.out]; exact HN1.out, hfj.trans (fr_set _ _ _ _)⟩
          case measure => simp [intOf]; omega
        · have HJM : Hid (j = Y.length) := Lib.hid (by have := HJ.out; have := HMY.out; omega)
          have g5 : ¬ (j : Int) < (m : Int) := by omega
          have HS : Hid (Calls Try.prog 33 #[.slice (some ⟨kg, 0, none⟩) (m) kc] wr fun e w' => e = .returned (.tuple #[]) ∧ Own w' 3 1 (.slice (some ⟨kg, 0, none⟩) (m) kc) (m) (is_ (sortI zl)) ∧ Fr (At1 kg) wr w') := Lib.hid (by
            have := sortI_any zl kg kc wr (by rw [HZL.out]; exact hokj) (by rw [HZL.out]; omega)
            rw [HZL.out] at this
            exact this)
          have HBJ := Lib.hid hbj
          have HMJ := Lib.hid hmj
          have HOKJ := Lib.hid hokj
          clear hokj hbj hmj i5 i6 z6
          go_wp2_with fail
          refine HS.out.mono ?_
          rintro e w5 ⟨rfl, ho5, hf5⟩
          obtain ⟨vs, KB, hfd⟩ := H.out.found
          have fa1 : (Value.slice p.fa s.found.length p.fc).ownBlock ≠ some q := hfd.out.ne_ H.out.blk (by decide)
          have fa2 : (Value.slice p.fa s.found.length p.fc).ownBlock ≠ some p.pb := hfd.out.ne_ bs3 (by decide)
          have hqk : q ≠ kg := by have := H.out.blk.lt; omega
          have HB5 := Lib.hid (HBJ.out.fr hf5 hqk)
          have i6 := HB5.out.cell 6
          have z6 := HB5.out.frozen 6
          simp [Array.getElem?_setIfInBounds] at i6
          have HFA := Lib.hid ((((hfd.out.fr HFK.out (fun _ _ h => h)).setCell (p := ⟨q, 4, none⟩) fa1 (.slice (some ad) A.length p.lc)).fr hfj fun k hk hS => fa2 (by have hS : k = p.pb := hS; subst hS; exact hk)).fr hf5 fun k hk hS => by
            have hS : k = kg := hS
            have := hfd.out.lt k hk
            omega)
          have HFD := Lib.hid hfd
          have HO5 := Lib.hid ho5
          have HF5 := Lib.hid hf5
          have HFJ := Lib.hid hfj
          have hq5 : q < w5.heap.size := HB5.out.lt
          have hX : Hid (s.found.length + 1 ≤ maxLen ∧ (s.found.length + 1) * 24 ≤ 140737488355328) := by
            refine ⟨?_, ?_⟩ <;> (try simp only [maxLen]) <;> omega
          clear hfd ho5 hf5 hfj HS
          go_wp2_with (at_builtin; refine wpList_app _ rfl (.tmp 60) (.tmp 62) 22 22 rfl elG (HFA.out.alloc _) rfl (Src.of_new (cs := #[.slice (some ⟨kg, 0, none⟩) (m) kc]) (t := 26) w5.heap.size (heap_alloc_new w5 _) Try.underlying22 rfl (by simp [Value.oneCell'])) rfl hX.out.1 hX.out.2 ?_; intro v1 w7 hown7 hfr7 hnew7; obtain ⟨A7, c7, rfl, _, _⟩ := hown7.form; have HB7 := Lib.hid ((HB5.out.alloc (.cells #[.slice (some ⟨kg, 0, none⟩) (m) kc] 26)).fr hfr7 fa1); have i7 := HB7.out.cell 6; have z7 := HB7.out.frozen 6; simp [Array.getElem?_setIfInBounds] at i7; have HO7 := Lib.hid hown7; have HF7 := Lib.hid hfr7; have HN7 := Lib.hid hnew7; clear hown7 hfr7 hnew7)
          refine bodyPost_end (v := .tuple #[]) (by simp [results, Try.results35, go_sem]) rfl ?_
          have hnd := HND.out
          rw [HL.out] at hnd
          obtain ⟨_, hn2, hn3⟩ := List.nodup_append.1 hnd
          refine ⟨rfl, knOf Y, knOf_up Y hn2, fun x => by rw [← List.mem_cons, HYY.out]; exact knOf_mem Y x, ?_⟩
          have hjY := HMY.out
          subst hjY
          have hzY := HZZ.out
          subst hzY
          have hmj := HMJ.out
          rw [HJM.out] at hmj
          exact tie_mem H.out HL.out (fun x h1 h2 => hn3 x h1 x h2 rfl) HYN.out hn HFD.out HFK.out (by rw [e1]) hkn hmj HFJ.out HO5.out HF5.out HO7.out HF7.out HN7.out
    · obtain ⟨y, hy1, hy2⟩ := (HAT.out i hi1 hi2).2 hia
      have hc := e3 i (.int .i64 (y : Int)) (by rw [nl, List.getElem?_map, hy1]; rfl)
      have hb : ((y : Int) != (v : Int)) = true := by rw [bne_iff_ne]; omega
      rw [e1] at k4
      go_wp2
      exact ⟨⟨i - 1, by omega, by omega, by rw [show ((i - 1 : Nat) : Int) = (i : Int) - 1 by omega], rfl⟩, by simp [intOf]; omega⟩
end Go.Proofs.Ytcjofakhefpfdaa
