/- BookClosed's walk. -/
import Derived.Test.YtgklifbfbjdobaaGreatBookA
import Derived.Test.YtgklifbfbjdobaaGreatBookMath5
import Derived.Test.YtgklifbfbjdobaaGreatSet10
namespace Go.Proofs.YtgklifbfbjdobaaGreat
open Go.RowKit Go.My Go.Maps Go.BigFrame
set_option linter.unusedSimpArgs false
set_option linter.unusedVariables false
attribute [local go_sem ↓] Go.wp_at_zero Go.wp_at_succ

section
open Go.ChangeShapes Go.WideShapes
set_option maxRecDepth 100000 in
theorem open_odx {H : Type} {enc : TypeId × Value → H} {w : World} {r : Reach} {b0 : Nat} {v : Value} {d : DataW H} {p : List MemPlace} (hv : Value.okWide Tryz.prog w r b0 35 v)
    (h : DataW.Trod enc Tryz.prog w 0 (fun _ => true) true 35 v d p) : ∃ x : Od × Value, v = x.1.val x.2 ∧ OdI w x.1 x.2 := by
  obtain ⟨o, u, h⟩ := open_odv hv h
  exact ⟨⟨o, u⟩, h⟩
end
/-- Do of a closing -/
theorem doclose_any (q : Pl) (b : Bk) (n : Int) (R : Rp) (B : Bk) (W : World) (h : BkS W q b) (hn : 1 ≤ n ∧ n ≤ 1000) (hR : doR b (closeOd n) = R) (hB : doB b (closeOd n) = B) :
    Calls Tryz.prog 12 #[.pointer (some ⟨q.p, 0, none⟩), .agg #[.int .i64 0, .int .i64 1, .int .i64 6, .string ⟨#[]⟩, .string ⟨#[]⟩, .int .i64 0, .slice none 0 0, .int .i64 n, .int .i64 0, .string ⟨#[]⟩]] W fun e w' => e = .returned (.agg #[.int .i64 R.err, .int .i64 R.hv, .int .i64 R.st, .int .i64 R.num]) ∧ BkS w' q B ∧ Fr q.wr W w' := by
  have h1 := do_any (fun _ => False) q b (closeOd n) (.slice none 0 0) W h (closeOd_ok n hn) (LgS_nil _ _) (fun _ h => False.elim h)
  rw [hR, hB] at h1
  exact h1
set_option maxRecDepth 100000 in
set_option maxHeartbeats 4000000 in
theorem bookClosed_walk (A : Option Addr) (c : Nat) (l : List Od) (period : Int) (v : Value) (x : Od × Value) (w : World) (hl : OdsS w w (Lt w.heap.size) A l) (hlc : l.length ≤ c) (hcm : c ≤ maxLen) (hper : -9223372036854775808 ≤ period ∧ period ≤ 9223372036854775807) (rd : v = x.1.val x.2 ∧ OdI w x.1 x.2) :
    Calls Tryz.prog 4 #[.slice A l.length c, .int .i64 period, v] w (RetTrue w) := by
  obtain ⟨o, u⟩ := x
  obtain ⟨rfl, hok, hgs, hLg⟩ := rd
  simp only at hok hgs hLg
  obtain ⟨B, d, rfl, hd1, hd2⟩ := hLg.form
  have HFEW : Hid (∀ W, Below w.heap.size w W → Calls Tryz.prog 10 #[.slice A l.length c, .int .i64 60] W (FewRet w W (fewO l 60))) := fun W hW =>
    few9_any w W _ A c l 60 (hl.below hW (fun _ h => h)) hlc hcm (by omega)
  have hbk := fold_inv bki0 (fewO l 60) (fun o ho => by
    unfold fewO at ho
    obtain ⟨o', h1, rfl⟩ := List.mem_map.1 ho
    exact hl.ok o' (List.mem_of_mem_take h1))
  have HLN : Hid ((fewO l 60).length ≤ 1000) := by show _ ≤ _; rw [fewO_length]; omega
  have HEO : Hid (Each (OdR w) 10 (o.cs (.slice B o.legs.length d)) [o]) := Each.snocO (Each.nilO w) rfl ⟨_, rfl, hok, hgs, hLg⟩
  have HFW : Hid (fewO [o] 1 = [o.few]) := rfl
  obtain ⟨k0, hk0, hk0l⟩ := umod period 1000 (by omega) (by omega)
  have hk0' : wrap64 ((IntKind.u64.wrap period).tmod 1000) = (k0 : Int) := hk0
  clear hk0
  have hbx := Blk.new w 35 (o.cs (.slice B o.legs.length d)).toArray
  have HBX := Lib.hid hbx
  have HOK := Lib.hid hok
  clear hl hlc hcm hbk hbx hok hgs hLg
  unfold Od.val
  have hcsE : (o.cs (.slice B o.legs.length d)) = [.int .i64 o.cl, .int .i64 o.sq, .int .i64 o.kd, .string o.acct, .string o.peer, .int .i64 o.sum, .slice B o.legs.length d, .int .i64 o.per, .int .i64 o.hold, .string o.note] := rfl
  rw [hcsE] at HBX HEO ⊢
  clear hcsE
  go_enter Tryz.func4, Tryz.ntmps4
  go_wp2_with fail
  (with_reducible refine (lives9 _).mono ?_)
  rintro e w1 ⟨rfl, hb1'⟩
  have hbx1 := HBX.out.below hb1' (by simp)
  have hb1 : Below w.heap.size w w1 := ((Below.refl _ _).alloc (Nat.le_refl _) _).trans (hb1'.mono (by simp))
  have HX1 := Lib.hid hbx1
  have HGE : Hid (w.heap.size < w1.heap.size) := hbx1.lt
  clear hb1' hbx1 HBX
  go_wp2_with fail
  (with_reducible refine (HFEW.out _ hb1).mono ?_)
  rintro e w2 ⟨A2, c2, rfl, ho2, hl2, hc2, hf2⟩
  have HW2 : Hid (Below w.heap.size w w2) := below_fr_no hb1 hf2 hb1.size
  have HO := Lib.hid ho2
  have HX2 := Lib.hid (HX1.out.fr hf2 (fun h => h))
  have HGE2 : Hid (w.heap.size < w2.heap.size) := HX2.out.lt
  clear ho2 hf2 hb1 HFEW HX1 HGE
  go_wp2_with fail
  (with_reducible refine (fold_any w w2 _ A2 c2 _ HO.out HW2.out HLN.out).mono ?_)
  rintro e w3 ⟨A3, c3, q, rfl, -, hb3, hf3, hq3, -, -⟩
  have HW3 : Hid (Below w.heap.size w w3) := below_fr_no HW2.out hf3 HW2.out.size
  have HQ : Hid (∀ i, Pl.all q i → w.heap.size < i) := fun i hi => by have := hq3 i hi; have := HGE2.out; omega
  have HB3 := Lib.hid hb3
  have HX3 := Lib.hid (HX2.out.fr hf3 (fun h => h))
  clear hb3 hf3 hq3 HO HLN HX2 HGE2
  generalize foldB bk0 (fewO l 60) = b at *
  obtain ⟨n, hn, hn1, hn2⟩ : ∃ n : Int, 1 + (k0 : Int) = n ∧ 1 ≤ n ∧ n ≤ 1000 := ⟨_, rfl, by omega, by omega⟩
  obtain ⟨b1, hcb, hcl, hcr⟩ := close_case b n ⟨hn1, hn2⟩
  have HCB := Lib.hid hcb
  have HCL := Lib.hid hcl
  have HN1 := Lib.hid (show 1 ≤ n ∧ n ≤ 1000 from ⟨hn1, hn2⟩)
  obtain ⟨re, rn, hR, hrr⟩ : ∃ re rn, doR b (closeOd n) = ⟨re, 0, 0, rn⟩ ∧ ((re = 10 ∧ rn = 0) ∨ (re = 0 ∧ rn = n)) := by
    rcases hcr with h | h
    · exact ⟨10, 0, h, .inl ⟨rfl, rfl⟩⟩
    · exact ⟨0, n, h, .inr ⟨rfl, rfl⟩⟩
  have HR := Lib.hid hR
  have HRR := Lib.hid hrr
  clear hcb hcl hR hrr hcr
  go_wp2_with fail
  (with_reducible refine (doclose_any q b n ⟨re, 0, 0, rn⟩ b1 w3 HB3.out HN1.out HR.out HCB.out).mono ?_)
  rintro e w4 ⟨rfl, hb4, hf4⟩
  have HB4 := Lib.hid hb4
  have HW4 : Hid (Below w.heap.size w w4) := below_fr HW3.out hf4 HW3.out.size (fun k hk => by have := HQ.out k (Pl.wr_all hk); omega)
  have HX4 := Lib.hid (HX3.out.fr hf4 (fun h => by have := HQ.out _ (Pl.wr_all h); omega))
  clear hb4 hf4 HB3 HX3 HCB HR
  go_wp2_with fail
  (with_reducible refine (bcopy_any q b1 _ (HB4.out.no ((Fr.refl _ _).alloc _))).mono ?_)
  rintro e w5 ⟨qc, rfl, hc5, hf5, hqc⟩
  have hf45 : Fr No w4 w5 := ((Fr.refl _ _).alloc _).trans hf5
  have HB5 := Lib.hid (HB4.out.no hf45)
  have HC5 := Lib.hid hc5
  have HAP : Hid (∀ i, qc.all i → w.heap.size < i ∧ ¬ q.wr i) := fun i hi => by
    have h1 := hqc i hi
    rw [World.size_alloc] at h1
    have h2 := HX4.out.lt
    exact ⟨by omega, fun h => by have := HB4.out.lt i (Pl.wr_all h); omega⟩
  have HW5 : Hid (Below w.heap.size w w5) := below_fr_no HW4.out hf45 HW4.out.size
  have HX5 := Lib.hid (HX4.out.fr hf45 (fun h => h))
  have hr5 := (Blk.new w4 29 #[.int .i64 re, .int .i64 0, .int .i64 0, .int .i64 rn]).fr hf5 (fun h => h)
  have r0 := hr5.cell 0
  have r3 := hr5.cell 3
  simp only [List.getElem?_toArray, List.getElem?_cons_zero, List.getElem?_cons_succ] at r0 r3
  clear hr5 hf5 hf45 hc5 hqc HB4 HX4
  have hq1 : (re == 0) = (rn == n) := by
    rcases HRR.out with ⟨rfl, rfl⟩ | ⟨rfl, rfl⟩
    · rw [show ((0 : Int) == n) = false from beq_eq_false_iff_ne.2 (by omega)]; rfl
    · rw [show ((rn : Int) == rn) = true from beq_self_eq_true rn]; rfl
  go_wp2_with fail
  (with_reducible refine (bclosed_any q b1 _ HB5.out).mono ?_)
  rintro e wx ⟨rfl, rfl⟩
  have hcl := HCL.out
  have HF1 : Hid (∀ W g, Below w.heap.size w W → Blk W g 35 #[.int .i64 o.cl, .int .i64 o.sq, .int .i64 o.kd, .string o.acct, .string o.peer, .int .i64 o.sum, .slice B o.legs.length d, .int .i64 o.per, .int .i64 o.hold, .string o.note] → Calls Tryz.prog 10 #[.slice (some ⟨g, 0, none⟩) 1 1, .int .i64 1] W (FewRet w W [o.few])) := fun W g hW hb => by
    have h := few9_any w W _ _ 1 [o] 1 (ods_blk hb HEO.out) (Nat.le_refl _) (by unfold maxLen; omega) (by omega)
    rw [HFW.out] at h
    exact h
  have hx5 := HX5.out
  have x0 := hx5.cell 0
  have x1 := hx5.cell 1
  have x2 := hx5.cell 2
  have x3 := hx5.cell 3
  have x4 := hx5.cell 4
  have x5 := hx5.cell 5
  have x6 := hx5.cell 6
  have x7 := hx5.cell 7
  have x8 := hx5.cell 8
  have x9 := hx5.cell 9
  simp only [List.getElem?_toArray, List.getElem?_cons_zero, List.getElem?_cons_succ] at x0 x1 x2 x3 x4 x5 x6 x7 x8 x9
  clear hx5
  go_wp2_with fail
  (with_reducible refine (HF1.out _ w5.heap.size (below_fr_no HW5.out ((Fr.refl _ _).alloc _) HW5.out.size) (Blk.new w5 _ _)).mono ?_)
  rintro e w6 ⟨A6, c6, rfl, ho6, hl6, hc6, hf6⟩
  have hf56 : Fr No w5 w6 := ((Fr.refl _ _).alloc _).trans hf6
  have HB6 := Lib.hid (HB5.out.no hf56)
  have HC6 := Lib.hid (HC5.out.no hf56)
  have HW6 : Hid (Below w.heap.size w w6) := below_fr_no HW5.out hf56 HW5.out.size
  have HX6 := Lib.hid (HX5.out.fr hf56 (fun h => h))
  obtain ⟨ad, v6, rfl, _, hok6, hgs6, hL6, y0, y1, y2, y3, y4, y5, y6, y7, y8, y9⟩ := ho6.at_ 0 (by simp)
  obtain ⟨B2, d2, rfl, hB2, hd2'⟩ := hL6.form
  clear hf6 hf56 ho6 HB5 HC5 HX5 HW5 x0 x1 x2 x3 x4 x5 x6 x7 x8 x9 r0 r3 hq1 HF1 hcl HEO HFW HOK
  simp only [List.getElem_cons_zero] at hok6 hgs6 hL6 hB2 y0 y1 y2 y3 y4 y5 y6 y7 y8 y9
  rw [show ad.add (0 * 10) = ad from rfl] at y0 y1 y2 y3 y4 y5 y6 y7 y8 y9
  obtain ⟨R2, B', hR2, hB', hold, hnew⟩ := closed_case b1 o.few
  obtain ⟨se, sh, ss, sn⟩ := R2
  have HOLD := Lib.hid hold
  have HNEW := Lib.hid hnew
  have HDO : Hid (∀ W, Below w.heap.size w W → BkS W q b1 → Calls Tryz.prog 12 #[.pointer (some ⟨q.p, 0, none⟩), .agg #[.int .i64 o.few.cl, .int .i64 o.few.sq, .int .i64 o.few.kd, .string o.few.acct, .string o.few.peer, .int .i64 o.few.sum, .slice B2 o.few.legs.length d2, .int .i64 o.few.per, .int .i64 o.few.hold, .string o.few.note]] W fun e w' => e = .returned (.agg #[.int .i64 se, .int .i64 sh, .int .i64 ss, .int .i64 sn]) ∧ BkS w' q B' ∧ Fr q.wr W w') := fun W hW hb => by
    have h := do_any _ q b1 o.few _ W hb hok6 (hL6.below hW) (fun k hk => ⟨Nat.lt_of_lt_of_le hk hW.size, fun e => by have := HQ.out q.m (.inr (.inr (.inl rfl))); have h1 : k < w.heap.size := hk; omega⟩)
    rw [hR2, hB'] at h
    exact h
  have HKD : Hid (oldB b1 o.few ↔ (o.few.kd = 2 ∨ o.few.kd = 4 ∨ o.few.kd = 6) ∧ o.few.per ≤ b1.cl) := Iff.rfl
  have hkd6 := hok6.2.2.1
  have hpr6 := hok6.2.2.2.2.2.2.1
  clear hold hnew hR2 hB' hok6 hgs6 hL6
  generalize oldB b1 o.few = OLD at *
  generalize o.few.legs = L at *
  generalize o.few.cl = cl at *
  generalize o.few.sq = sq at *
  generalize o.few.kd = kd at *
  generalize o.few.acct = acct at *
  generalize o.few.peer = peer at *
  generalize o.few.sum = sum at *
  generalize o.few.per = per at *
  generalize o.few.hold = hold at *
  generalize o.few.note = note at *
  have hx6 := HX6.out
  have x0 := hx6.cell 0
  have x1 := hx6.cell 1
  have x2 := hx6.cell 2
  have x3 := hx6.cell 3
  have x4 := hx6.cell 4
  have x5 := hx6.cell 5
  have x6 := hx6.cell 6
  have x7 := hx6.cell 7
  have x8 := hx6.cell 8
  have x9 := hx6.cell 9
  have g0 := hx6.frozen 0
  have g1 := hx6.frozen 1
  have g2 := hx6.frozen 2
  have g3 := hx6.frozen 3
  have g4 := hx6.frozen 4
  have g5 := hx6.frozen 5
  have g6 := hx6.frozen 6
  have g7 := hx6.frozen 7
  have g8 := hx6.frozen 8
  have g9 := hx6.frozen 9
  simp only [List.getElem?_toArray, List.getElem?_cons_zero, List.getElem?_cons_succ] at x0 x1 x2 x3 x4 x5 x6 x7 x8 x9
  clear hx6
  go_upto_region 10 with (fail)
  obtain ⟨hx7, hf7⟩ := set10 HX6.out (.int .i64 cl) (.int .i64 sq) (.int .i64 kd) (.string acct) (.string peer) (.int .i64 sum) (.slice B2 L.length d2) (.int .i64 per) (.int .i64 hold) (.string note)
  clear x0 x1 x2 x3 x4 x5 x6 x7 x8 x9 g0 g1 g2 g3 g4 g5 g6 g7 g8 g9 y0 y1 y2 y3 y4 y5 y6 y7 y8 y9
  generalize (((((((((w6.setCell ⟨w.heap.size, 0, none⟩ (.int .i64 cl)).setCell ⟨w.heap.size, 1, none⟩ (.int .i64 sq)).setCell ⟨w.heap.size, 2, none⟩ (.int .i64 kd)).setCell ⟨w.heap.size, 3, none⟩ (.string acct)).setCell ⟨w.heap.size, 4, none⟩ (.string peer)).setCell ⟨w.heap.size, 5, none⟩ (.int .i64 sum)).setCell ⟨w.heap.size, 6, none⟩ (.slice B2 L.length d2)).setCell ⟨w.heap.size, 7, none⟩ (.int .i64 per)).setCell ⟨w.heap.size, 8, none⟩ (.int .i64 hold)).setCell ⟨w.heap.size, 9, none⟩ (.string note) = w7 at *
  have HB7 := Lib.hid (HB6.out.fr hf7 (fun i hi h => by have h1 : i = w.heap.size := h; have := HQ.out i hi; omega))
  have HC7 := Lib.hid (HC6.out.fr hf7 (fun i hi h => by have h1 : i = w.heap.size := h; have := (HAP.out i hi).1; omega))
  have HW7 : Hid (Below w.heap.size w w7) := below_fr HW6.out hf7 HW6.out.size (fun k hk => by have : k = w.heap.size := hk; omega)
  have HX7 := Lib.hid hx7
  have x0 := hx7.cell 0
  have x1 := hx7.cell 1
  have x2 := hx7.cell 2
  have x3 := hx7.cell 3
  have x4 := hx7.cell 4
  have x5 := hx7.cell 5
  have x6 := hx7.cell 6
  have x7 := hx7.cell 7
  have x8 := hx7.cell 8
  have x9 := hx7.cell 9
  simp only [List.getElem?_toArray, List.getElem?_cons_zero, List.getElem?_cons_succ] at x0 x1 x2 x3 x4 x5 x6 x7 x8 x9
  clear hx7 hf7 HX6 HB6 HC6
  go_wp2_with fail
  (with_reducible refine (HDO.out _ HW7.out HB7.out).mono ?_)
  rintro e w8 ⟨rfl, hb8, hf8⟩
  have HB8 := Lib.hid hb8
  have HC8 := Lib.hid (HC7.out.fr hf8 (fun i hi => (HAP.out i hi).2))
  have HW8 : Hid (Below w.heap.size w w8) := below_fr HW7.out hf8 HW7.out.size (fun k hk => by have := HQ.out k (Pl.wr_all hk); omega)
  have hx8 := (HX7.out.fr hf8 (fun h => by have := HQ.out _ (Pl.wr_all h); omega))
  clear hb8 hf8 HX7 HB7 HC7 x0 x1 x2 x3 x4 x5 x6 x7 x8 x9 HDO
  go_upto_region 11 with (fail)
  have hf89 : Fr No w8 (w8.alloc (.cells #[.int .i64 se, .int .i64 sh, .int .i64 ss, .int .i64 sn] 29)) := (Fr.refl _ _).alloc _
  have hr9 := Blk.new w8 29 #[.int .i64 se, .int .i64 sh, .int .i64 ss, .int .i64 sn]
  have hx9 := hx8.fr hf89 (fun h => h)
  generalize w8.alloc (.cells #[.int .i64 se, .int .i64 sh, .int .i64 ss, .int .i64 sn] 29) = w9 at *
  have HB9 := Lib.hid (HB8.out.no hf89)
  have HC9 := Lib.hid (HC8.out.no hf89)
  have HW9 : Hid (Below w.heap.size w w9) := below_fr_no HW8.out hf89 HW8.out.size
  have x2 := hx9.cell 2
  have x7 := hx9.cell 7
  have r0 := hr9.cell 0
  simp only [List.getElem?_toArray, List.getElem?_cons_zero, List.getElem?_cons_succ] at x2 x7 r0
  clear hx8 hx9 hr9 hf89 HB8 HC8 HW8
  have HCLO := Lib.hid (fun W (h : Fr No w9 W) => (bclosed_any qc b1 W (HC9.out.no h)).mono (fun e w' h => (⟨h.1, h.2.symm⟩ : e = .returned (.int .i64 b1.cl) ∧ w' = W)))
  have HSM := Lib.hid (fun W (h : Fr No w9 W) => bsame_any qc q b1 B' W (HC9.out.no h) (HB9.out.no h))
  have hK : (kd = 2 ∨ kd = 4 ∨ kd = 6) ∨ ((kd == 2) = false ∧ (kd == 4) = false ∧ (kd == 6) = false ∧ ¬ OLD) := by
    by_cases h : kd = 2 ∨ kd = 4 ∨ kd = 6
    · exact .inl h
    · refine .inr ⟨beq_eq_false_iff_ne.2 (fun e => h (.inl e)), beq_eq_false_iff_ne.2 (fun e => h (.inr (.inl e))), beq_eq_false_iff_ne.2 (fun e => h (.inr (.inr e))), fun e => h (HKD.out.1 e).1⟩
  rcases hK with hk | ⟨z1, z2, z3, hno⟩
  · by_cases hp : per ≤ b1.cl
    · have hO : OLD := HKD.out.2 ⟨hk, hp⟩
      obtain ⟨hse, hBB⟩ := HOLD.out hO
      subst hBB
      have hse' : se = 10 ∨ se = 1 := by
        rcases hse with h | h
        · exact .inl (congrArg Rp.err h)
        · exact .inr (congrArg Rp.err h)
      rw [sameBk_refl] at HSM
      clear hse hO HOLD HNEW HKD
      rcases hk with rfl | rfl | rfl
      all_goals
        go_quiet ((go_at_call 16; exact Calls.quiet_of_same (HCLO.out _ ((Fr.refl _ _).drewN _))))
        rcases hse' with rfl | rfl
        all_goals
          go_wp2_with fail
          (with_reducible refine (HSM.out _ (by first | exact Fr.refl _ _ | exact (Fr.refl _ _).drewN _)).mono ?_)
          rintro e w10 ⟨rfl, hf10⟩
          have HW10 : Hid (Below w.heap.size w w10) := below_fr_no HW9.out (((Fr.refl No _).drewN _).trans hf10) HW9.out.size
          clear hf10
          go_wp2
          go_ret
          exact ⟨rfl, HW10.out⟩
    · have hO : ¬ OLD := fun h => hp (HKD.out.1 h).2
      have hne : se ≠ 10 := HNEW.out hO
      have hz : (se != 10) = true := by rw [bne_iff_ne]; exact hne
      clear hne hO HOLD HNEW HKD
      rcases hk with rfl | rfl | rfl
      all_goals
        go_quiet ((go_at_call 16; exact Calls.quiet_of_same (HCLO.out _ ((Fr.refl _ _).drewN _))))
        go_wp2
        go_ret
        exact ⟨rfl, below_drewN HW9.out _⟩
  · have hne : se ≠ 10 := HNEW.out hno
    have hz : (se != 10) = true := by rw [bne_iff_ne]; exact hne
    clear hne hno HOLD HNEW HKD
    go_quiet ((go_at_call 16; exact Calls.quiet_of_same (HCLO.out _ ((Fr.refl _ _).drewN _))))
    go_wp2
    go_ret
    exact ⟨rfl, below_drewN HW9.out _⟩
end Go.Proofs.YtgklifbfbjdobaaGreat
