/- BookCopies' walk. -/
import Derived.Test.YtgklifbfbjdobaaGreatBookA
namespace Go.Proofs.YtgklifbfbjdobaaGreat
open Go.RowKit Go.My Go.Maps Go.BigFrame
set_option linter.unusedSimpArgs false
set_option linter.unusedVariables false
attribute [local go_sem ↓] Go.wp_at_zero Go.wp_at_succ

/-- Do of an order that came in -/
theorem doat_any (w0 : World) (q : Pl) (b : Bk) (o : Od) (v : Value) (W : World) (h : BkS W q b) (ho : o.ok) (hL : LgS w0 (Lt w0.heap.size) v o.legs) (hb : Below w0.heap.size w0 W) (hq : ∀ i, q.all i → w0.heap.size ≤ i) :
    Calls Tryz.prog 12 #[.pointer (some ⟨q.p, 0, none⟩), .agg #[.int .i64 o.cl, .int .i64 o.sq, .int .i64 o.kd, .string o.acct, .string o.peer, .int .i64 o.sum, v, .int .i64 o.per, .int .i64 o.hold, .string o.note]] W fun e w' => e = .returned (.agg #[.int .i64 (doR b o).err, .int .i64 (doR b o).hv, .int .i64 (doR b o).st, .int .i64 (doR b o).num]) ∧ BkS w' q (doB b o) ∧ Fr q.wr W w' :=
  do_any _ q b o v W h ho (hL.below hb) (fun k hk => ⟨Nat.lt_of_lt_of_le hk hb.size, fun e => by have := hq q.m (.inr (.inr (.inl rfl))); have h1 : k < w0.heap.size := hk; omega⟩)
theorem donil_any (s : Int) (w : World) : Calls Tryz.prog 12 #[.pointer none, .agg #[.int .i64 0, .int .i64 1, .int .i64 7, .string ⟨#[97]⟩, .string ⟨#[]⟩, .int .i64 0, .slice none 0 0, .int .i64 0, .int .i64 0, .string ⟨#[]⟩]] w fun e w' => e = .returned (.agg #[.int .i64 1, .int .i64 0, .int .i64 0, .int .i64 0]) ∧ Fr No w w' := by
  have hb := Blk.new (w.alloc (.cells #[.int .i64 0, .int .i64 1, .int .i64 7, .string ⟨#[97]⟩, .string ⟨#[]⟩, .int .i64 0, .slice none 0 0, .int .i64 0, .int .i64 0, .string ⟨#[]⟩] 35)) 29 #[.int .i64 1, .int .i64 0, .int .i64 0, .int .i64 0]
  rw [World.size_alloc] at hb
  have d0 := hb.cell 0
  have d1 := hb.cell 1
  have d2 := hb.cell 2
  have d3 := hb.cell 3
  simp only [List.getElem?_toArray, List.getElem?_cons_zero, List.getElem?_cons_succ] at d0 d1 d2 d3
  clear hb
  go_enter Tryz.func12, Tryz.ntmps12
  go_wp2
  refine bodyPost_ret (v := .agg #[.int .i64 1, .int .i64 0, .int .i64 0, .int .i64 0]) (by simp [results, Tryz.results12, go_sem, d0, d1, d2, d3]) rfl ?_
  exact ⟨rfl, ((Fr.refl _ _).alloc _).alloc _⟩
theorem field_err (a b c d : Value) (W : World) : (Instr.field 29 (.agg #[a, b, c, d]) 0).run Tryz.prog W = .ok a W := by kernel_rfl
def CpRel (w6 : World) (q : Pl) (b : Bk) (ms : List Od) (n : Nat) (iv : Value) (wr : World) : Prop := ∃ k : Nat, k ≤ n ∧ iv = .int .i64 k ∧ BkS wr q (foldB b (ms.take k)) ∧ Fr q.wr w6 wr
set_option maxRecDepth 100000 in
set_option maxHeartbeats 4000000 in
theorem bookCopies_walk (A : Option Addr) (c : Nat) (l : List Od) (A' : Option Addr) (c' : Nat) (m : List Od) (w : World) (hl : OdsS w w (Lt w.heap.size) A l) (hlc : l.length ≤ c) (hcm : c ≤ maxLen) (hm : OdsS w w (Lt w.heap.size) A' m) (hmc : m.length ≤ c') (hcm' : c' ≤ maxLen) :
    Calls Tryz.prog 5 #[.slice A l.length c, .slice A' m.length c'] w (RetTrue w) := by
  have HFEW : Hid (∀ W, Below w.heap.size w W → Calls Tryz.prog 10 #[.slice A l.length c, .int .i64 60] W (FewRet w W (fewO l 60))) := fun W hW =>
    few9_any w W _ A c l 60 (hl.below hW (fun _ h => h)) hlc hcm (by omega)
  have HFEM : Hid (∀ W, Below w.heap.size w W → Calls Tryz.prog 10 #[.slice A' m.length c', .int .i64 30] W (FewRet w W (fewO m 30))) := fun W hW =>
    few9_any w W _ A' c' m 30 (hm.below hW (fun _ h => h)) hmc hcm' (by omega)
  have HLN : Hid ((fewO l 60).length ≤ 1000) := by show _ ≤ _; rw [fewO_length]; omega
  have hMN : (fewO m 30).length ≤ 30 := by rw [fewO_length]; omega
  clear hl hlc hcm hm hmc hcm'
  go_enter Tryz.func5, Tryz.ntmps5
  go_wp2_with fail
  (with_reducible refine (lives9 _).mono ?_)
  rintro e w1 ⟨rfl, hb1⟩
  go_wp2_with fail
  (with_reducible refine (HFEW.out _ hb1).mono ?_)
  rintro e w2 ⟨A2, c2, rfl, ho2, hl2, hc2, hf2⟩
  have HW2 : Hid (Below w.heap.size w w2) := below_fr_no hb1 hf2 hb1.size
  have HO2 := Lib.hid ho2
  clear ho2 hf2 hb1 HFEW
  go_wp2_with fail
  (with_reducible refine (HFEM.out _ HW2.out).mono ?_)
  rintro e w3 ⟨A3, c3, rfl, hm3, hl3, hc3, hf3⟩
  have HW3 : Hid (Below w.heap.size w w3) := below_fr_no HW2.out hf3 HW2.out.size
  have HM3 : Hid (OdsS w w3 (Lt w3.heap.size) A3 (fewO m 30)) := by
    obtain ⟨cells, hr, hE⟩ := hm3
    exact ⟨cells, rd_lt hr (by omega), hE⟩
  have HO3 := Lib.hid (HO2.out.fr hf3 (fun _ _ _ h => h))
  clear hm3 hf3 HFEM HO2
  go_wp2_with fail
  (with_reducible refine (fold_any w w3 _ A2 c2 _ HO3.out HW3.out HLN.out).mono ?_)
  rintro e w4 ⟨A4, c4, qb, rfl, -, hb4, hf4, hq4, -, -⟩
  have HB4 := Lib.hid hb4
  have HW4 : Hid (Below w.heap.size w w4) := below_fr_no HW3.out hf4 HW3.out.size
  have HF4 := Lib.hid hf4
  have HQ4 := Lib.hid hq4
  have HO4 := Lib.hid (HO3.out.fr hf4 (fun _ _ _ h => h))
  clear hb4 hf4 hq4 HO3
  go_wp2_with fail
  (with_reducible refine (fold_any w w4 _ A2 c2 _ HO4.out HW4.out HLN.out).mono ?_)
  rintro e w5 ⟨A5, c5, qa, rfl, -, hb5, hf5, hq5, -, -⟩
  have HA5 := Lib.hid hb5
  have HB5 := Lib.hid (HB4.out.no hf5)
  have HW5 : Hid (Below w.heap.size w w5) := below_fr_no HW4.out hf5 HW4.out.size
  have HF5 : Hid (Fr No w3 w5) := HF4.out.trans hf5
  have HBL : Hid (∀ i, qb.all i → i < w4.heap.size) := HB4.out.lt
  have HS45 : Hid (w4.heap.size ≤ w5.heap.size) := hf5.size
  clear hb5 hf5 hq5 HO4 HLN HB4 HF4
  generalize foldB bk0 (fewO l 60) = b at *
  generalize fewO m 30 = ms at *
  go_wp2_with fail
  (with_reducible refine (bcopy_any qb b _ HB5.out).mono ?_)
  rintro e w6 ⟨qc, rfl, hc6, hf6, hqc⟩
  have HB6 := Lib.hid (HB5.out.no hf6)
  have HA6 := Lib.hid (HA5.out.no hf6)
  have HC6 := Lib.hid hc6
  have HW6 : Hid (Below w.heap.size w w6) := below_fr_no HW5.out hf6 HW5.out.size
  have HM6 : Hid (OdsS w w6 (Lt w3.heap.size) A3 ms) := HM3.out.fr (HF5.out.trans hf6) (fun _ _ _ h => h)
  have HQC : Hid (∀ i, qc.all i → w.heap.size ≤ i ∧ w3.heap.size ≤ i ∧ ¬ qb.all i ∧ ¬ qa.all i) := fun i hi => by
    have h1 := hqc i hi
    have h2 := HW5.out.size
    have h3 := HF5.out.size
    exact ⟨by omega, by omega, fun h => by have := HBL.out i h; have := HS45.out; omega, fun h => by have := HA5.out.lt i h; omega⟩
  clear hc6 hf6 hqc HB5 HA5 HW5 HBL HS45 HF5 HM3
  go_wp2_with fail
  go_loopw [10] (fun iv wr => CpRel w6 qc b ms ms.length iv wr) (fun iv _ => ms.length - (intOf iv).toNat)
  case atStart => exact ⟨0, Nat.zero_le _, rfl, HC6.out, Fr.refl _ _⟩
  case round =>
    obtain ⟨k, hk, rfl, hck, hfr⟩ := hrel
    have HFR := Lib.hid hfr
    have HCK := Lib.hid hck
    have HWR : Hid (Below w.heap.size w wr) := below_fr HW6.out hfr HW6.out.size (fun i hi => (HQC.out i (Pl.wr_all hi)).1)
    have HBR := Lib.hid (HB6.out.fr hfr (fun i hi h => (HQC.out i (Pl.wr_all h)).2.2.1 hi))
    have HAR := Lib.hid (HA6.out.fr hfr (fun i hi h => (HQC.out i (Pl.wr_all h)).2.2.2 hi))
    have HMR := Lib.hid (HM6.out.fr hfr (fun i hi _ h => by have := (HQC.out i (Pl.wr_all h)).2.1; have : i < w3.heap.size := hi; omega))
    clear hfr hck
    by_cases hlt : k < ms.length
    · generalize wr = wo at *
      obtain ⟨ad, v, rfl, _, hok, hg, hL, q0, q1, q2, q3, q4, q5, q6, q7, q8, q9⟩ := HMR.out.at_ k hlt
      obtain ⟨B, d, rfl, hd1, hd2⟩ := hL.form
      obtain ⟨-, E2⟩ := fold_take b ms k hlt
      have HK10 : Hid (k < ms.length) := hlt
      have HROW : Hid (∀ W, Fr (fun i => w3.heap.size ≤ i) wo W → OdsS w W (Lt w3.heap.size) (some ad) ms) := fun W hW => HMR.out.fr hW (fun i hi _ h => by have : i < w3.heap.size := hi; omega)
      have HDO : Hid (∀ (q : Pl) W, BkS W q (foldB b (ms.take k)) → Below w.heap.size w W → (∀ i, q.all i → w.heap.size ≤ i) → Calls Tryz.prog 12 #[.pointer (some ⟨q.p, 0, none⟩), .agg #[.int .i64 ms[k].cl, .int .i64 ms[k].sq, .int .i64 ms[k].kd, .string ms[k].acct, .string ms[k].peer, .int .i64 ms[k].sum, .slice B ms[k].legs.length d, .int .i64 ms[k].per, .int .i64 ms[k].hold, .string ms[k].note]] W fun e w' => e = .returned (.agg #[.int .i64 (doR (foldB b (ms.take k)) ms[k]).err, .int .i64 (doR (foldB b (ms.take k)) ms[k]).hv, .int .i64 (doR (foldB b (ms.take k)) ms[k]).st, .int .i64 (doR (foldB b (ms.take k)) ms[k]).num]) ∧ BkS w' q (foldB b (ms.take (k + 1))) ∧ Fr q.wr W w') := fun q W h1 h2 h3 => by
        refine (doat_any w q _ ms[k] _ W h1 hok hL h2 h3).mono fun e w' hx => ⟨hx.1, ?_, hx.2.2⟩
        rw [E2]
        exact hx.2.1
      have HCELL : Hid (∀ W, Fr (fun i => w3.heap.size ≤ i) wo W → W.cell? (ad.add (k * 10)) = some (.int .i64 ms[k].cl) ∧ W.cell? ⟨(ad.add (k * 10)).block, (ad.add (k * 10)).off + 1, none⟩ = some (.int .i64 ms[k].sq) ∧ W.cell? ⟨(ad.add (k * 10)).block, (ad.add (k * 10)).off + 2, none⟩ = some (.int .i64 ms[k].kd) ∧ W.cell? ⟨(ad.add (k * 10)).block, (ad.add (k * 10)).off + 3, none⟩ = some (.string ms[k].acct) ∧ W.cell? ⟨(ad.add (k * 10)).block, (ad.add (k * 10)).off + 4, none⟩ = some (.string ms[k].peer) ∧ W.cell? ⟨(ad.add (k * 10)).block, (ad.add (k * 10)).off + 5, none⟩ = some (.int .i64 ms[k].sum) ∧ W.cell? ⟨(ad.add (k * 10)).block, (ad.add (k * 10)).off + 6, none⟩ = some (.slice B ms[k].legs.length d) ∧ W.cell? ⟨(ad.add (k * 10)).block, (ad.add (k * 10)).off + 7, none⟩ = some (.int .i64 ms[k].per) ∧ W.cell? ⟨(ad.add (k * 10)).block, (ad.add (k * 10)).off + 8, none⟩ = some (.int .i64 ms[k].hold) ∧ W.cell? ⟨(ad.add (k * 10)).block, (ad.add (k * 10)).off + 9, none⟩ = some (.string ms[k].note)) := fun W hW => by
        have hfar : ¬ w3.heap.size ≤ ad.block := by
          have : ad.block < w3.heap.size := by assumption
          omega
        have hb : (ad.add (k * 10)).block = ad.block := block_of_add _ _
        exact ⟨hW.cell_some q0 (by rw [hb]; exact hfar), hW.cell_some q1 (by simp only [hb]; exact hfar), hW.cell_some q2 (by simp only [hb]; exact hfar), hW.cell_some q3 (by simp only [hb]; exact hfar), hW.cell_some q4 (by simp only [hb]; exact hfar), hW.cell_some q5 (by simp only [hb]; exact hfar), hW.cell_some q6 (by simp only [hb]; exact hfar), hW.cell_some q7 (by simp only [hb]; exact hfar), hW.cell_some q8 (by simp only [hb]; exact hfar), hW.cell_some q9 (by simp only [hb]; exact hfar)⟩
      clear hok hg hL E2
      generalize doR (foldB b (ms.take k)) ms[k] = R at *
      obtain ⟨re, rh, rs, rn⟩ := R
      simp only at HDO
      generalize ms[k].legs = L at *
      generalize ms[k].cl = cl at *
      generalize ms[k].sq = sq at *
      generalize ms[k].kd = kd at *
      generalize ms[k].acct = acct at *
      generalize ms[k].peer = peer at *
      generalize ms[k].sum = sum at *
      generalize ms[k].per = per at *
      generalize ms[k].hold = hold at *
      generalize ms[k].note = note at *
      go_wp2_with fail
      (with_reducible refine (HDO.out qc _ HCK.out HWR.out (fun i hi => (HQC.out i hi).1)).mono ?_)
      rintro e w7 ⟨rfl, hc7, hf7⟩
      have HC7 := Lib.hid hc7
      have HG7 : Hid (Fr (fun i => w3.heap.size ≤ i) wo w7) := hf7.mono (fun i _ h => (HQC.out i (Pl.wr_all h)).2.1)
      have HW7 : Hid (Below w.heap.size w w7) := below_fr HWR.out hf7 HWR.out.size (fun i hi => (HQC.out i (Pl.wr_all hi)).1)
      have HB7 := Lib.hid (HBR.out.fr hf7 (fun i hi h => (HQC.out i (Pl.wr_all h)).2.2.1 hi))
      have HA7 := Lib.hid (HAR.out.fr hf7 (fun i hi h => (HQC.out i (Pl.wr_all h)).2.2.2 hi))
      have HFR7 : Hid (Fr qc.wr w6 w7) := HFR.out.trans hf7
      have hx7 := Blk.new w7 29 #[.int .i64 re, .int .i64 rh, .int .i64 rs, .int .i64 rn]
      have HX7 := Lib.hid hx7
      have HSB := Lib.hid (bsame_any qb qa b b _ (HB7.out.no ((Fr.refl _ _).alloc (.cells #[.int .i64 re, .int .i64 rh, .int .i64 rs, .int .i64 rn] 29))) (HA7.out.no ((Fr.refl _ _).alloc (.cells #[.int .i64 re, .int .i64 rh, .int .i64 rs, .int .i64 rn] 29))))
      rw [sameBk_refl] at HSB
      clear hc7 hf7 hx7 q0 q1 q2 q3 q4 q5 q6 q7 q8 q9
      go_wp2_with fail
      (with_reducible refine HSB.out.mono ?_)
      rintro e w8 ⟨rfl, hf8⟩
      have hf78 : Fr No w7 w8 := ((Fr.refl _ _).alloc _).trans hf8
      have HX8 := Lib.hid (HX7.out.fr hf8 (fun h => h))
      have HC8 := Lib.hid (HC7.out.no hf78)
      have HB8 := Lib.hid (HB7.out.no hf78)
      have HG8 : Hid (Fr (fun i => w3.heap.size ≤ i) wo w8) := HG7.out.trans (hf78.mono fun _ _ h => False.elim h)
      have HW8 : Hid (Below w.heap.size w w8) := below_fr_no HW7.out hf78 HW7.out.size
      have HFR8 : Hid (Fr qc.wr w6 w8) := HFR7.out.trans (hf78.mono fun _ _ h => False.elim h)
      clear hf8 hf78 HSB HX7 HC7 HB7 HA7
      go_wp2_with fail
      (with_reducible refine (bcopy_any qb b _ HB8.out).mono ?_)
      rintro e w9 ⟨qd, rfl, hd9, hf9, hqd⟩
      have HX9 := Lib.hid (HX8.out.fr hf9 (fun h => h))
      have HC9 := Lib.hid (HC8.out.no hf9)
      have HD9 := Lib.hid hd9
      have HG9 : Hid (Fr (fun i => w3.heap.size ≤ i) wo w9) := HG8.out.trans (hf9.mono fun _ _ h => False.elim h)
      have HW9 : Hid (Below w.heap.size w w9) := below_fr_no HW8.out hf9 HW8.out.size
      have HFR9 : Hid (Fr qc.wr w6 w9) := HFR8.out.trans (hf9.mono fun _ _ h => False.elim h)
      have HQD : Hid (∀ i, qd.all i → w.heap.size ≤ i ∧ w3.heap.size ≤ i ∧ ¬ qc.all i ∧ i ≠ w7.heap.size ∧ w6.heap.size ≤ i) := fun i hi => by
        have h1 := hqd i hi
        have h2 := HW8.out.size
        have h3 := HG8.out.size
        have h4 := HX8.out.lt
        have h5 := HFR8.out.size
        have h6 := HQC.out qc.p (.inl rfl)
        have h7 := HC6.out.lt qc.p (.inl rfl)
        exact ⟨by omega, by omega, fun h => by have := HC8.out.lt i h; omega, by omega, by omega⟩
      clear hf9 hqd hd9 HX8 HC8 HB8
      go_wp2_with fail
      go_loopw [13] (fun jv ws => CpRel w9 qd b ms k jv ws) (fun jv _ => k - (intOf jv).toNat)
      case atStart => exact ⟨0, Nat.zero_le _, rfl, HD9.out, Fr.refl _ _⟩
      case round =>
        obtain ⟨j, hj, rfl, hdj, hfj⟩ := hrel
        have HDJ := Lib.hid hdj
        have HFJ := Lib.hid hfj
        have HGJ : Hid (Fr (fun i => w3.heap.size ≤ i) wo wr) := HG9.out.trans (hfj.mono (fun i _ h => (HQD.out i (Pl.wr_all h)).2.1))
        have HWJ : Hid (Below w.heap.size w wr) := below_fr HW9.out hfj HW9.out.size (fun i hi => (HQD.out i (Pl.wr_all hi)).1)
        clear hdj hfj
        by_cases hjk : j < k
        · have hjl : j < ms.length := by have := HK10.out; omega
          obtain ⟨ad', v', hadd, _, hok, hg, hL, q0, q1, q2, q3, q4, q5, q6, q7, q8, q9⟩ := (HROW.out _ HGJ.out).at_ j hjl
          cases hadd
          obtain ⟨B', d', rfl, hd1', hd2'⟩ := hL.form
          obtain ⟨-, E3⟩ := fold_take b ms j hjl
          have HDX := Lib.hid ((doat_any w qd _ ms[j] _ wr HDJ.out hok hL HWJ.out (fun i hi => (HQD.out i hi).1)).mono fun e w' hx => (⟨hx.1, by rw [E3]; exact hx.2.1, hx.2.2⟩ : _ ∧ BkS w' qd (foldB b (ms.take (j + 1))) ∧ Fr qd.wr wr w'))
          clear hok hg hL E3
          generalize doR (foldB b (ms.take j)) ms[j] = R' at *
          go_wp2_with fail
          (with_reducible refine HDX.out.mono ?_)
          rintro e w11 ⟨rfl, hd11, hf11⟩
          have HD11 := Lib.hid hd11
          have HF11 : Hid (Fr qd.wr w9 w11) := HFJ.out.trans hf11
          clear hd11 hf11 q0 q1 q2 q3 q4 q5 q6 q7 q8 q9
          go_wp2
          go_roundw
          case rel => exact ⟨j + 1, by omega, by go_num, HD11.out, HF11.out⟩
          case measure => simp [intOf]; omega
        · obtain rfl : j = k := by omega
          have HXJ := Lib.hid (HX9.out.fr HFJ.out (fun h => (HQD.out _ (Pl.wr_all h)).2.2.2.1 rfl))
          have HCJ := Lib.hid (HC9.out.fr HFJ.out (fun i hi h => (HQD.out i (Pl.wr_all h)).2.2.1 hi))
          have HFRJ : Hid (Fr qc.wr w6 wr) := HFR9.out.trans' HFJ.out (fun i hi hlt => absurd (HQD.out i (Pl.wr_all hi)).2.2.2.2 (by omega))
          have HXX : Hid (∀ W, Fr qd.wr wr W → Fr qd.wr wr W ∧ W.cell? ⟨w7.heap.size, 0, none⟩ = some (.int .i64 re) ∧ W.cell? ⟨w7.heap.size, 1, none⟩ = some (.int .i64 rh) ∧ W.cell? ⟨w7.heap.size, 2, none⟩ = some (.int .i64 rs) ∧ W.cell? ⟨w7.heap.size, 3, none⟩ = some (.int .i64 rn) ∧ W.cell? (ad.add (j * 10)) = some (.int .i64 cl) ∧ W.cell? ⟨(ad.add (j * 10)).block, (ad.add (j * 10)).off + 1, none⟩ = some (.int .i64 sq) ∧ W.cell? ⟨(ad.add (j * 10)).block, (ad.add (j * 10)).off + 2, none⟩ = some (.int .i64 kd) ∧ W.cell? ⟨(ad.add (j * 10)).block, (ad.add (j * 10)).off + 3, none⟩ = some (.string acct) ∧ W.cell? ⟨(ad.add (j * 10)).block, (ad.add (j * 10)).off + 4, none⟩ = some (.string peer) ∧ W.cell? ⟨(ad.add (j * 10)).block, (ad.add (j * 10)).off + 5, none⟩ = some (.int .i64 sum) ∧ W.cell? ⟨(ad.add (j * 10)).block, (ad.add (j * 10)).off + 6, none⟩ = some (.slice B L.length d) ∧ W.cell? ⟨(ad.add (j * 10)).block, (ad.add (j * 10)).off + 7, none⟩ = some (.int .i64 per) ∧ W.cell? ⟨(ad.add (j * 10)).block, (ad.add (j * 10)).off + 8, none⟩ = some (.int .i64 hold) ∧ W.cell? ⟨(ad.add (j * 10)).block, (ad.add (j * 10)).off + 9, none⟩ = some (.string note)) := fun W hW => by
            have h1 := HXJ.out.fr hW (fun h => (HQD.out _ (Pl.wr_all h)).2.2.2.1 rfl)
            exact ⟨hW, h1.cell 0, h1.cell 1, h1.cell 2, h1.cell 3, HCELL.out W (HGJ.out.trans (hW.mono (fun i _ h => (HQD.out i (Pl.wr_all h)).2.1)))⟩
          have HCC : Hid (∀ W, Fr qd.wr wr W → BkS W qc (foldB b (ms.take (j + 1)))) := fun W hW => HCJ.out.fr hW (fun i hi h => (HQD.out i (Pl.wr_all h)).2.2.1 hi)
          have HDX : Hid (∀ W, BkS W qd (foldB b (ms.take j)) → Fr qd.wr wr W → Calls Tryz.prog 12 #[.pointer (some ⟨qd.p, 0, none⟩), .agg #[.int .i64 cl, .int .i64 sq, .int .i64 kd, .string acct, .string peer, .int .i64 sum, .slice B L.length d, .int .i64 per, .int .i64 hold, .string note]] W fun e w' => e = .returned (.agg #[.int .i64 re, .int .i64 rh, .int .i64 rs, .int .i64 rn]) ∧ BkS w' qd (foldB b (ms.take (j + 1))) ∧ Fr qd.wr W w') := fun W h1 h2 =>
            HDO.out qd W h1 (below_fr HWJ.out h2 HWJ.out.size (fun i hi => (HQD.out i (Pl.wr_all hi)).1)) (fun i hi => (HQD.out i hi).1)
          have HS1 : Hid (∀ W, BkS W qd (foldB b (ms.take (j + 1))) → Fr qd.wr wr W → Calls Tryz.prog 13 #[.pointer (some ⟨qc.p, 0, none⟩), .pointer (some ⟨qd.p, 0, none⟩)] W fun e w' => e = .returned (.bool true) ∧ Fr No W w') := fun W h1 h2 => by
            have h := bsame_any qc qd _ _ W (HCC.out W h2) h1
            rw [sameBk_refl] at h
            exact h
          have HS2 : Hid (∀ W, BkS W qd (foldB b (ms.take (j + 1))) → Fr qd.wr wr W → Calls Tryz.prog 13 #[.pointer (some ⟨qd.p, 0, none⟩), .pointer (some ⟨qc.p, 0, none⟩)] W fun e w' => e = .returned (.bool true) ∧ Fr No W w') := fun W h1 h2 => by
            have h := bsame_any qd qc _ _ W h1 (HCC.out W h2)
            rw [sameBk_refl] at h
            exact h
          have hw : Fr qd.wr wr wr.drew := (Fr.refl _ wr).drew
          have hdr := HDJ.out.no ((Fr.refl No wr).drew)
          clear HDO HCELL HROW HXJ HX9 HC9 HD9 HCJ
          go_upto_region 18 with (fail)
          go_region_held3 (fun W => Fr qd.wr wr W ∧ W.cell? ⟨w7.heap.size, 0, none⟩ = some (.int .i64 re) ∧ W.cell? ⟨w7.heap.size, 1, none⟩ = some (.int .i64 rh) ∧ W.cell? ⟨w7.heap.size, 2, none⟩ = some (.int .i64 rs) ∧ W.cell? ⟨w7.heap.size, 3, none⟩ = some (.int .i64 rn) ∧ W.cell? (ad.add (j * 10)) = some (.int .i64 cl) ∧ W.cell? ⟨(ad.add (j * 10)).block, (ad.add (j * 10)).off + 1, none⟩ = some (.int .i64 sq) ∧ W.cell? ⟨(ad.add (j * 10)).block, (ad.add (j * 10)).off + 2, none⟩ = some (.int .i64 kd) ∧ W.cell? ⟨(ad.add (j * 10)).block, (ad.add (j * 10)).off + 3, none⟩ = some (.string acct) ∧ W.cell? ⟨(ad.add (j * 10)).block, (ad.add (j * 10)).off + 4, none⟩ = some (.string peer) ∧ W.cell? ⟨(ad.add (j * 10)).block, (ad.add (j * 10)).off + 5, none⟩ = some (.int .i64 sum) ∧ W.cell? ⟨(ad.add (j * 10)).block, (ad.add (j * 10)).off + 6, none⟩ = some (.slice B L.length d) ∧ W.cell? ⟨(ad.add (j * 10)).block, (ad.add (j * 10)).off + 7, none⟩ = some (.int .i64 per) ∧ W.cell? ⟨(ad.add (j * 10)).block, (ad.add (j * 10)).off + 8, none⟩ = some (.int .i64 hold) ∧ W.cell? ⟨(ad.add (j * 10)).block, (ad.add (j * 10)).off + 9, none⟩ = some (.string note))
            (first | (refine HXX.out _ ?_; with_reducible assumption))
            (first
              | (go_at_call 12; (with_reducible refine (HDX.out _ hdr hw).mono ?_); rintro e u1 ⟨rfl, hd1, hg⟩; have ka1 : Fr qd.wr wr u1 := Fr.trans hw hg; clear hg)
              | (go_at_call 13; (with_reducible refine (HS1.out _ hd1 ka1).mono ?_); rintro e u2 ⟨rfl, hg⟩; have hd2 := hd1.no hg; have ka2 : Fr qd.wr wr u2 := Fr.trans ka1 (hg.mono fun _ _ h => False.elim h); clear hg)
              | (go_at_call 13; (with_reducible refine (HS2.out _ hd2 ka2).mono ?_); rintro e u3 ⟨rfl, hg⟩; have ka3 : Fr qd.wr wr u3 := Fr.trans ka2 (hg.mono fun _ _ h => False.elim h); clear hg))
          all_goals
            have HEND : Hid (BkS u3 qc (foldB b (ms.take (j + 1))) ∧ Fr qc.wr w6 u3) := ⟨HCC.out _ ka3, HFRJ.out.trans' ka3 (fun i hi hlt => absurd (HQD.out i (Pl.wr_all hi)).2.2.2.2 (by omega))⟩
            clear HXX HCC HDX HS1 HS2
            go_wp2
            go_roundw
            case rel => exact ⟨j + 1, by omega, by go_num, HEND.out.1, HEND.out.2⟩
            case measure => simp [intOf]; omega
    · obtain rfl : k = ms.length := by omega
      go_wp2_with fail
      (with_reducible refine (ask9_any 1 7 ⟨#[97]⟩ 0 _).mono ?_)
      rintro e w7 ⟨rfl, hf7⟩
      have HF7 := Lib.hid hf7
      clear hf7
      go_wp2_with fail
      (with_reducible refine (donil_any 0 _).mono ?_)
      rintro e w8 ⟨rfl, hf8⟩
      have HF8 := Lib.hid (HF7.out.trans hf8)
      clear hf8
      have hfld := fun a b c d W => field_err a b c d W
      go_wp2_with fail
      (with_reducible refine (baccts_nil _).mono ?_)
      rintro e wx ⟨rfl, rfl⟩
      go_wp2_with fail
      (with_reducible refine (bcopy_nil _).mono ?_)
      rintro e wx ⟨rfl, rfl⟩
      go_wp2_with fail
      (with_reducible refine (bsame_nil _).mono ?_)
      rintro e wx ⟨rfl, rfl⟩
      go_wp2_with fail
      (with_reducible refine (bsame_nilR _ _).mono ?_)
      rintro e wx ⟨rfl, rfl⟩
      go_wp2
      go_ret
      exact ⟨rfl, below_fr_no HWR.out HF8.out HWR.out.size⟩
end Go.Proofs.YtgklifbfbjdobaaGreat
