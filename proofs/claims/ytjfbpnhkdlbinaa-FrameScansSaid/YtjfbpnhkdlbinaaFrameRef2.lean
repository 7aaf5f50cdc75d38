/- Contract of the document's own answer: the frames of any bytes. And FrameScans. -/
import Derived.Test.YtjfbpnhkdlbinaaFrameRef
namespace Go.Proofs.Ytjfbpnhkdlbinaa
open Go.RowKit Go.My
set_option linter.unusedSimpArgs false
set_option linter.unusedVariables false

/-- the frame is just these bytes if, and only if, it is read -/
theorem frm_take (b : List UInt8) (n : Nat) (h : 6 + n ≤ b.length) (hn : size2 b[0] b[1] = n) (h1 : ¬ n < 1) (h2 : ¬ 4096 < n) :
    (frm ((b.drop 6).take n) = b.take (6 + n)) ↔ (nextF b).1 = 0 := by
  have hl : ((b.drop 6).take n).length = n := by simp; omega
  constructor
  · intro he
    have hb : b = frm ((b.drop 6).take n) ++ b.drop (6 + n) := by rw [he, List.take_append_drop]
    rw [hb, next_frm _ _ ⟨by omega, by omega⟩]
  · intro h0
    rw [next_long b n h hn h1 h2] at h0
    by_cases hs : sumF ((b.drop 6).take n) = val4 b[2] b[3] b[4] b[5]
    · have hx := next_long b n h hn h1 h2
      rw [if_pos hs] at hx
      obtain ⟨_, heq⟩ := next_only b _ hx
      have := congrArg (List.take (6 + n)) heq
      rw [this, List.take_left' (by rw [frm_length, hl])]
    · rw [if_neg hs] at h0; simp at h0
theorem next_data (b : List UInt8) (n : Nat) (h : 6 + n ≤ b.length) (hn : size2 b[0] b[1] = n) (h1 : ¬ n < 1) (h2 : ¬ 4096 < n) (h0 : (nextF b).1 = 0) : (nextF b).2 = (b.drop 6).take n := by
  rw [next_long b n h hn h1 h2] at h0 ⊢
  split
  · rfl
  · rename_i hs
    rw [if_neg hs] at h0
    simp at h0
theorem add_size2 (a b : UInt8) : wrap64 (wrap64 (a.toNat : Int) + wrap64 (256 * wrap64 (b.toNat : Int))) = (size2 a b : Int) := by
  have ha := a.toNat_lt
  have hb := b.toNat_lt
  rw [IntWalk.wrap64_in (a.toNat : Int) ⟨by omega, by omega⟩, IntWalk.wrap64_in (b.toNat : Int) ⟨by omega, by omega⟩, IntWalk.wrap64_in (256 * (b.toNat : Int)) ⟨by omega, by omega⟩, IntWalk.wrap64_in _ ⟨by omega, by omega⟩]
  unfold size2
  omega
theorem RetWrap.open_ {w : World} {l : List (List UInt8)} {e : Ending} {w' : World} (h : RetWrap w l e w') :
    ∃ A' c', e = .returned (.tuple #[.slice A' (wrapV l).length c', .int .i64 (wrapE l : Int)]) ∧ Rd w' (Lt w'.heap.size) 1 A' (wrapV l).length (bs (wrapV l)) ∧ Fr No w w' := by
  obtain ⟨v, rfl, ho, hf, hn⟩ := h
  obtain ⟨A', c', rfl, h1, h2⟩ := ho.form
  exact ⟨A', c', rfl, rd_lt ho.rd (by omega), hf⟩
def RScanRel (w : World) (b : List UInt8) (lv av : Value) (wr : World) : Prop :=
  ∃ (done : List (List UInt8)) (at_ : Nat) (cells : List Value), at_ ≤ b.length ∧ av = .int .i64 at_ ∧ Own wr 25 1 lv done.length cells ∧ Els w.heap.size wr cells done ∧
    scan b = (done ++ (scan (b.drop at_)).1, at_ + (scan (b.drop at_)).2.1, (scan (b.drop at_)).2.2) ∧ done.length ≤ at_ ∧ Fr No w wr ∧ Newer w.heap.size none lv.ownBlock

/-- behind the loop: what is handed back -/
theorem RScanRel.out {w : World} {b : List UInt8} {done : List (List UInt8)} {k : Nat} {cells : List Value} {A : Option Addr} {c : Nat} {wr : World} (x : Nat) (ho : Own wr 25 1 (.slice A done.length c) done.length cells) (hE : Els w.heap.size wr cells done)
    (hs : scan b = (done, k, x)) (hf : Fr No w wr) (hl : done.length ≤ c) (hm : c ≤ maxLen) : RetScan w b (.returned (.tuple #[.slice A done.length c, .int .i64 (k : Int), .int .i64 (x : Int)])) wr := by
  unfold RetScan
  rw [hs]
  exact ⟨A, c, rfl, hE.rdl ho.rd, hl, hm, hf⟩

set_option maxRecDepth 100000 in
set_option maxHeartbeats 2000000 in
theorem rscan_any (A : Option Addr) (c : Nat) (b : List UInt8) (w : World) (hr : Rd w (Lt w.heap.size) 1 A b.length (bs b)) (hl : b.length ≤ c) (hc : c ≤ maxLen) (hsm : b.length ≤ 1000000000) :
    Calls Try.prog 39 #[.slice A b.length c] w (RetScan w b) := by
  have HR := Lib.hid hr
  have HM := Lib.hid hc
  have hc' : c ≤ 9223372036854775807 := by simp only [maxLen] at hc; omega
  clear hr hc
  go_enter Try.func39, Try.ntmps39
  go_wp2
  have hstart : RScanRel w b (.slice none 0 0) (.int .i64 0) w :=
    ⟨[], 0, [], Nat.zero_le _, rfl, Own.nil _ _ _, Els.nil _ _, by simp, Nat.le_refl _, Fr.refl _ _, .inl rfl⟩
  go_loopw [5, 6] (fun lv av wr => RScanRel w b lv av wr) (fun _ av _ => b.length - (intOf av).toNat)
  case atStart => exact hstart
  case round =>
    clear hstart
    obtain ⟨done, k, cells, hk, rfl, ho, hE, hsc, hdk, hf, hn⟩ := hrel
    obtain ⟨A5, c5, rfl, hl5, hm5⟩ := ho.form
    by_cases hlt : k < b.length
    · have hrk := HR.out.cut (k := k) (cap := c) (by omega) hl
      rw [if_neg (by omega), Nat.mul_one, ← bs_drop] at hrk
      obtain ⟨ad, _, rfl, _⟩ := HR.out.at_ hlt
      have HRK : Hid (Rd w (Lt w.heap.size) 1 (some (ad.add k)) (b.drop k).length (bs (b.drop k))) := by rw [List.length_drop]; exact hrk
      have hlen : (b.drop k).length = b.length - k := List.length_drop
      have hif : (if c = k then some ad else some (ad.add k)) = some (ad.add k) := if_neg (by omega)
      have hne : b.drop k ≠ [] := fun h => by have := congrArg List.length h; simp at this; omega
      have HST := Lib.hid (scan_step (b.drop k) hne)
      have HSC := Lib.hid hsc
      have HE := Lib.hid hE
      have HO := Lib.hid ho
      have HNXT : Hid (∀ m, (b.drop k).drop m = b.drop (k + m)) := fun m => by rw [List.drop_drop]
      clear hrk hsc hE ho hne
      go_upto_region 5 with (fail)
      clear hif
      have hbk : b.length = k + (b.length - k) := by omega
      have hck : c = k + (c - k) := by omega
      generalize b.length - k = r at *
      generalize c - k = cr at *
      generalize ad.add k = ad2 at *
      generalize b.drop k = R at *
      have hrr : R.length ≤ cr := by omega
      have hR1 : 1 ≤ r := by omega
      have HBK := Lib.hid hbk
      have hcr : cr ≤ 9223372036854775807 := by omega
      have hcm : cr ≤ maxLen := by have := HM.out; omega
      have hrsm : r ≤ 1000000000 := by omega
      subst hlen
      have hadd : ∀ m (hm : m < R.length), wr.cell? (ad2.add m) = some (.int .u8 (R[m].toNat : Int)) := by
        intro m hm
        obtain ⟨ad', u, e, _, hx, hc⟩ := (HRK.out.below hf.belowNo fun _ h => h).at_ hm
        injection e with e
        subst e
        rw [bs_get R m hm] at hx
        injection hx with hx
        subst hx
        exact hc
      have HADD := Lib.hid hadd
      clear hbk hck hadd
      by_cases h2 : R.length < 2
      · have h2' : (R.length : Int) < 2 := by omega
        have hx : nextF R = (4, []) := by
          match R, h2 with
          | [], _ => rfl
          | [_], _ => rfl
        have hfin : scan b = (done, k, 4) := by
          rw [HSC.out, HST.out, hx, if_neg (by decide)]
          simp
        have HOUT := Lib.hid (RScanRel.out 4 HO.out HE.out hfin hf hl5 hm5)
        clear hx hfin
        go_wp2
        go_ret3
        exact HOUT.out
      have h2' : ¬ (R.length : Int) < 2 := by omega
      have hc0 : wr.cell? ad2 = some (.int .u8 (R[0].toNat : Int)) := HADD.out 0 (by omega)
      have hc1 : wr.cell? ⟨ad2.block, ad2.off + 1, none⟩ = some (.int .u8 (R[1].toNat : Int)) := HADD.out 1 (by omega)
      obtain ⟨n, hn⟩ : ∃ n, size2 R[0] R[1] = n := ⟨_, rfl⟩
      have HN := Lib.hid hn
      have hn2 : n ≤ 65535 := by have := R[0].toNat_lt; have := R[1].toNat_lt; unfold size2 at hn; omega
      generalize R[0] = r0 at hc0 hn
      generalize R[1] = r1 at hc1 hn
      have HN2 := Lib.hid hn
      clear hn
      go_wp2_with fail
      go_quiet (fail)
      rw [add_size2, HN2.out]
      clear hc0 hc1 HN2
      have hf2 : Fr No w (wr.drewN nq) := hf.drewN nq
      have HO2 : Hid (Own (wr.drewN nq) 25 1 (.slice A5 done.length c5) done.length cells) := HO.out.drewN nq
      have HE2 : Hid (Els w.heap.size (wr.drewN nq) cells done) := Els.frNo HE.out ((Fr.refl No wr).drewN nq)
      generalize wr.drewN nq = wq at *
      have stop : Hid (∀ x, x ≠ 0 → nextF R = (x, []) → RetScan w b (.returned (.tuple #[.slice A5 done.length c5, .int .i64 (k : Int), .int .i64 (x : Int)])) wq) := by
        intro x hx0 hx
        refine RScanRel.out x HO2.out HE2.out ?_ hf2 hl5 hm5
        rw [HSC.out, HST.out, hx, if_neg hx0]
        simp
      by_cases hb1 : n < 1
      · have hx := Lib.hid (stop.out 3 (by decide) (next_bad R n (by omega) HN.out (.inl hb1)))
        have d1 : ((n : Int) < 1) := by omega
        go_wp2
        go_ret3
        exact hx.out
      by_cases hb2 : 4096 < n
      · have hx := Lib.hid (stop.out 3 (by decide) (next_bad R n (by omega) HN.out (.inr hb2)))
        have d1 : ¬ ((n : Int) < 1) := by omega
        have d2 : ((4096 : Int) < n) := by omega
        go_wp2
        go_ret3
        exact hx.out
      have d1 : ¬ ((n : Int) < 1) := by omega
      have d2 : ¬ ((4096 : Int) < n) := by omega
      by_cases hs : R.length < 6 + n
      · have hx := Lib.hid (stop.out 4 (by decide) (next_short R n (by omega) HN.out hb1 hb2 hs))
        have d3 : (R.length : Int) < 6 + n := by omega
        go_wp2
        go_ret3
        exact hx.out
      have d3 : ¬ (R.length : Int) < 6 + n := by omega
      clear stop
      have hdl : ((R.drop 6).take n).length = n := by simp; omega
      have hcut := HRK.out.cut (k := 6) (cap := cr) (by omega) hrr
      rw [if_neg (by omega)] at hcut
      have hcut2 := hcut.take (k := n) (by omega)
      rw [Nat.mul_one, Nat.mul_one, ← bs_drop, ← bs_take] at hcut2
      have hrd : Rd w (Lt w.heap.size) 1 (some ⟨ad2.block, ad2.off + 6, none⟩) ((R.drop 6).take n).length (bs ((R.drop 6).take n)) := by rw [hdl]; exact hcut2
      have HRD := Lib.hid hrd
      have hhead : Rd w (Lt w.heap.size) 1 (some ad2) (6 + n) (bs (R.take (6 + n))) := by
        have := HRK.out.take (k := 6 + n) (by omega)
        rwa [Nat.mul_one, ← bs_take] at this
      have HHEAD := Lib.hid hhead
      have HTK := Lib.hid (frm_take R n (by omega) HN.out hb1 hb2)
      have HDAT := Lib.hid (next_data R n (by omega) HN.out hb1 hb2)
      have hnerr := next_err R
      have HDL := Lib.hid hdl
      have hok : OkLen ((R.drop 6).take n) := ⟨by omega, by omega⟩
      have hall : AllOk [(R.drop 6).take n] := fun x hx => by simp at hx; subst hx; exact hok
      have hv : wrapV [(R.drop 6).take n] = frm ((R.drop 6).take n) := by rw [show wrapV [(R.drop 6).take n] = wrapF [(R.drop 6).take n] from if_pos hall]; simp [wrapF]
      have he0 : wrapE [(R.drop 6).take n] = 0 := if_pos hall
      have hfr := (rframe_any (some ⟨ad2.block, ad2.off + 6, none⟩) (cr - 6) ((R.drop 6).take n) wq ((HRD.out.below hf2.belowNo fun _ h => h).more fun k hk => Nat.lt_of_lt_of_le hk hf2.size) (by omega) (by omega))
      rw [hdl] at hfr
      have HFR := Lib.hid hfr
      have hcap : (6 : Int) + n ≤ cr := by omega
      clear hcut hcut2 hrd hhead hall hdl hfr
      go_wp2_with fail
      refine HFR.out.mono ?_
      intro e w2 hr2
      obtain ⟨A7, c7, rfl, rd7, hf7⟩ := RetWrap.open_ hr2
      rw [hv] at rd7 ⊢
      rw [he0]
      clear hr2 HFR hv he0
      have hs2 := hf7.size
      have hf8 : Fr No w w2 := hf2.trans hf7
      have HO8 : Hid (Own w2 25 1 (.slice A5 done.length c5) done.length cells) := HO2.out.fr hf7 (fun _ _ h => h)
      have HE8 : Hid (Els w.heap.size w2 cells done) := Els.frNo HE2.out hf7
      have hhd2 : Rd w2 (Lt w.heap.size) 1 (some ad2) (6 + n) (bs (R.take (6 + n))) := HHEAD.out.below hf8.belowNo fun _ h => h
      have hst1 := fun m => run_str_of_bytes (P := Try.prog) (w := w2.drewN m) (c := c7) 25 9 5 Try.underlying25 Try.underlying5 Try.underlying9 (Rd.drewN rd7 m)
      have hst2 := fun m => run_str_of_bytes (P := Try.prog) (w := w2.drewN m) (c := cr) 25 9 5 Try.underlying25 Try.underlying5 Try.underlying9 (Rd.drewN hhd2 m)
      have HRD8 : Hid (RdT w.heap.size 5 w2 (some ⟨ad2.block, ad2.off + 6, none⟩) ((R.drop 6).take n).length (bs ((R.drop 6).take n))) := RdT.of_lt (HRD.out.below hf8.belowNo fun _ h => h)
      clear hf2 hf7 HO2 HE2 rd7 hhd2 HHEAD HADD
      generalize (R.drop 6).take n = dat at *
      generalize hF : frm dat = fd at *
      generalize hT : R.take (6 + n) = tk at *
      have HFT : Hid (fd = tk ↔ (nextF R).1 = 0) := HTK.out
      clear hF hT HTK
      by_cases heq : fd = tk
      · have h0 := HFT.out.1 heq
        have hd1 : (fd == tk) = true := by rw [beq_iff_eq]; exact heq
        have hdat := HDAT.out h0
        have hst := HST.out
        rw [if_pos h0, hdat] at hst
        have HST2 := Lib.hid hst
        have hle : k + (6 + dat.length) ≤ b.length := by have := HBK.out; have := HDL.out; omega
        have hdn := HDL.out
        have HHE := Lib.hid heq
        clear hst hdat h0 heq HST HDAT HFT hnerr
        subst hdn
        have hbp : done.length + 1 ≤ 1000000001 := by omega
        go_wp2_with fail
        go_quiet (fail)
        have hf9 : Fr No w (w2.drewN nq) := hf8.drewN nq
        have ho9 : Own (w2.drewN nq) 25 1 (.slice A5 done.length c5) done.length cells := HO8.out.drewN nq
        have hE9 : Els w.heap.size (w2.drewN nq) (cells ++ [.slice (some ⟨ad2.block, ad2.off + 6, none⟩) dat.length (cr - 6)]) (done ++ [dat]) :=
          (Els.frNo HE8.out ((Fr.refl No w2).drewN nq)).more _ _ dat (HRD8.out.fr (S := No) ((Fr.refl No w2).drewN nq) (fun _ h => h.elim)) (by omega) (by omega)
        clear hst1 hst2 HO8 HE8 HRD8 hf8
        generalize w2.drewN nq = wz at *
        have ho6 : Own (wz.alloc (.cells #[.slice (some ⟨ad2.block, ad2.off + 6, none⟩) dat.length (cr - 6)] 25)) 25 1 (.slice A5 done.length c5) done.length cells := ho9.alloc _
        have hE6 : Els w.heap.size (wz.alloc (.cells #[.slice (some ⟨ad2.block, ad2.off + 6, none⟩) dat.length (cr - 6)] 25)) (cells ++ [.slice (some ⟨ad2.block, ad2.off + 6, none⟩) dat.length (cr - 6)]) (done ++ [dat]) := Els.frNo hE9 ((Fr.refl No wz).alloc _)
        have hf6 : Fr No w (wz.alloc (.cells #[.slice (some ⟨ad2.block, ad2.off + 6, none⟩) dat.length (cr - 6)] 25)) := hf9.alloc _
        have hsrc6 : Src Try.prog (wz.alloc (.cells #[.slice (some ⟨ad2.block, ad2.off + 6, none⟩) dat.length (cr - 6)] 25)) 1 47 (.slice (some ⟨wz.heap.size, 0, none⟩) 1 1) 1 [.slice (some ⟨ad2.block, ad2.off + 6, none⟩) dat.length (cr - 6)] := Src.of_new _ (heap_alloc_new _ _) Try.underlying47 rfl (by simp [Value.oneCell'])
        clear ho9 hE9 hf9
        go_wp2_with (at_builtin; refine wpList_app _ rfl (.tmp 66) (.tmp 71) 47 47 rfl elL ho6 rfl hsrc6 rfl (by simp only [maxLen]; omega) (by omega) ?_; intro v7 w7 ho7 hf7 hn7)
        have hE7 : Els w.heap.size w7 (cells ++ [.slice (some ⟨ad2.block, ad2.off + 6, none⟩) dat.length (cr - 6)]) (done ++ [dat]) := hE6.fr hf7 fun i hi => ⟨newer_none hn i hi, fun cur hc => by
          obtain ⟨cur', hb'⟩ := ho6.blk i hi
          exact Blk.ne_ hc hb' (by decide) rfl⟩
        refine ⟨⟨done ++ [dat], k + (6 + dat.length), _, hle, by go_num, by rw [List.length_append]; exact ho7, hE7, ?_, by simp; omega, fr_no hf6 hn hf7, hn.trans (Newer.of hn7) hf6.size⟩, by simp [intOf]; omega⟩
        rw [HSC.out, HST2.out, HNXT.out]
        simp only [List.append_assoc, List.cons_append, List.nil_append, Prod.mk.injEq, true_and, and_true]
        omega
      · have h0 : ¬ (nextF R).1 = 0 := fun h => heq (HFT.out.2 h)
        have hd1 : (fd == tk) = false := by rw [beq_eq_false_iff_ne]; exact heq
        have hx3 : nextF R = (3, []) := by
          have h9 := next_long R n (by omega) HN.out hb1 hb2
          split at h9
          · rw [h9] at h0; exact absurd rfl h0
          · exact h9
        have hfin : scan b = (done, k, 3) := by
          rw [HSC.out, HST.out, hx3, if_neg (by decide)]
          simp
        have HOUT : Hid (∀ m, RetScan w b (.returned (.tuple #[.slice A5 done.length c5, .int .i64 (k : Int), .int .i64 (3 : Int)])) (w2.drewN m)) := fun m => RScanRel.out 3 (HO8.out.drewN m) (Els.frNo HE8.out ((Fr.refl No w2).drewN m)) hfin (hf8.drewN m) hl5 hm5
        clear hx3 hfin h0 heq HST HDAT HFT hnerr
        go_wp2_with fail
        go_quiet (fail)
        go_wp2
        go_ret3
        exact HOUT.out _
    · obtain rfl : k = b.length := by omega
      rw [List.drop_length, scan_nil] at hsc
      simp only [List.append_nil, Nat.add_zero] at hsc
      have HOUT := Lib.hid (RScanRel.out 0 ho hE hsc hf hl5 hm5)
      clear ho hE hsc
      go_wp2
      go_ret3
      exact HOUT.out
set_option maxRecDepth 100000 in
set_option maxHeartbeats 1000000 in
theorem frameScans_walk (A : Option Addr) (c : Nat) (b : List UInt8) (w : World) (rd : Rd w (Lt w.heap.size) 1 A b.length (bs b)) (lc : b.length ≤ c) (cm : c ≤ maxLen) :
    Calls Try.prog 7 #[.slice A b.length c] w (RetTrue w) := by
  obtain ⟨rdB, hB1⟩ := rd_take b 5000 rd
  have HE := Lib.hid fun w => early3_any A b.length c w lc cm
  have hB2 : (b.take 5000).length ≤ 5000 := by omega
  have hBc : (b.take 5000).length ≤ c := by omega
  generalize b.take 5000 = B at *
  generalize b.length = L at *
  rw [← hB1] at rdB HE
  clear rd hB1
  have HRB : Hid (∀ W, Below w.heap.size w W → Rd W (Lt W.heap.size) 1 A B.length (bs B)) := fun W hW => (rdB.below hW fun _ h => h).more fun k hk => Nat.lt_of_lt_of_le hk hW.size
  have HM := Lib.hid cm
  clear rdB cm
  go_enter Try.func7, Try.ntmps7
  go_wp2_with fail
  refine (livesF _).mono ?_
  rintro e w1 ⟨rfl, hb1⟩
  have hs1 := hb1.size
  go_wp2_with fail
  refine (HE.out _).mono ?_
  rintro e w1' ⟨rfl, rfl⟩
  go_wp2_with fail
  refine (scan_any A c B w1 (HRB.out _ hb1) hBc HM.out (by omega)).mono ?_
  rintro e w2 ⟨A2, c2, rfl, rl2, hl2, hm2, hf2⟩
  have hb2 := below_fr_no hb1 hf2 hs1
  have hs2 := hb2.size
  go_wp2_with fail
  refine (rscan_any A c B w2 (HRB.out _ hb2) hBc HM.out (by omega)).mono ?_
  rintro e w3 ⟨A3, c3, rfl, rl3, hl3, hm3, hf3⟩
  have hb3 := below_fr_no hb2 hf3 hs2
  have hcn := scan_count B
  have HSM := Lib.hid (sameL_eq A2 A3 _ c2 _ c3 (scan B).1 (scan B).1 w3 rfl rfl rfl (rl2.below hf3.belowNo) rl3 (by omega))
  clear rl2 rl3 hl2 hl3 hf2 hf3 hcn
  generalize (scan B).1.length = n1 at *
  generalize (scan B).2.1 = n2 at *
  generalize (scan B).2.2 = n3 at *
  go_wp2_with (go_at_call 40; refine HSM.out.mono ?_; rintro e w4 ⟨rfl, nd, rfl⟩)
  go_ret
  exact ⟨rfl, below_drewN hb3 nd⟩
end Go.Proofs.Ytjfbpnhkdlbinaa
