/- The document's Import of steps: the walk. -/
import Derived.Test.YtnphncemghfkbaaGreatImpA
namespace Go.Proofs.YtnphncemghfkbaaGreat
open Go.RowKit Go.My Go.Maps Go.WideMaps
set_option linter.unusedSimpArgs false
set_option linter.unusedVariables false
attribute [local go_sem ↓] Go.wp_at_zero Go.wp_at_succ

def IqEnd (F : Nat → Prop) (w : World) (p N : Nat) (R : Option (List (List Od) × List UInt8)) (ov : Value) (wr : World) : Prop :=
  ∃ (S : List (List Od)) (l' : List UInt8) (e : Nat), S.length ≤ N ∧ Fr (At1 p) w wr ∧ RowsT wr ov S ∧ RdR F wr p l' e ∧ RowsOk S ∧ e < 5 ∧ ((e = 0 ∧ R = some (S, l')) ∨ (e ≠ 0 ∧ R = none))
theorem rdr_cells {F : Nat → Prop} {w : World} {p : Nat} {l : List UInt8} {e : Nat} (h : RdR F w p l e) : ∃ A c, (∀ W, Fr No w W → W.cell? ⟨p, 0, none⟩ = some (.slice A l.length c) ∧ W.cell? ⟨p, 1, none⟩ = some (.int .i64 (e : Int))) := by
  obtain ⟨A, c, hb, _⟩ := h
  exact ⟨A, c, fun W hW => ⟨(hb.fr hW (fun h => h)).cell 0, (hb.fr hW (fun h => h)).cell 1⟩⟩
set_option maxRecDepth 100000 in
set_option maxHeartbeats 8000000 in
theorem refimport_any (w : World) (F0 : Nat → Prop) (A : Option Addr) (c : Nat) (b : List UInt8) (hb : Rd w F0 1 A b.length (bs b)) (hc : b.length ≤ c) (hm : c ≤ maxLen) (hsz : b.length ≤ 3000) :
    Calls Tryz.prog 22 #[.slice A b.length c] w (ImpRet w b) := by
  obtain ⟨F, hF⟩ : ∃ F : Nat → Prop, F = fun k => k < w.heap.size := ⟨_, rfl⟩
  have HFL : Hid (∀ k, F k → k < w.heap.size) := fun k hk => (by rw [hF] at hk; exact hk)
  have hbl : Rd w F 1 A b.length (bs b) := (hb.lt (by omega)).more fun k hk => (by rw [hF]; exact hk.2)
  have HBR := Lib.hid hbl
  have hbp := Blk.new w 75 #[.slice A b.length c, .int .i64 0]
  have hf0 : Fr No w (w.alloc (.cells #[.slice A b.length c, .int .i64 0] 75)) := (Fr.refl _ _).alloc _
  have hr0 : RdR F (w.alloc (.cells #[.slice A b.length c, .int .i64 0] 75)) w.heap.size b 0 := ⟨A, c, hbp, hbl.fr (by omega) hf0 (fun _ _ _ h => h), hc, hm, by omega, fun h => absurd (HFL.out _ h) (Nat.lt_irrefl _)⟩
  have hre : (rrange 0 200 b 0).2.1 < 5 := rrange_err 0 200 b 0 (by omega)
  have HQ0 : Hid (qsteps b = if (rrange 0 200 b 0).2.1 = 0 then (qrows (rrange 0 200 b 0).1.toNat (rrange 0 200 b 0).2.2).bind fun q => if q.2 = [] then some q.1 else none else none) := rfl
  obtain ⟨N, hN, hN2⟩ : ∃ N : Nat, (rrange 0 200 b 0).1 = (N : Int) ∧ N ≤ 200 := by
    by_cases he : (rrange 0 200 b 0).2.1 = 0
    · obtain ⟨hb0, hb1, hb2⟩ := rrng_only 0 200 b he
      exact ⟨(rrange 0 200 b 0).1.toNat, by omega, by omega⟩
    · exact ⟨0, by rw [rrange_zero 0 200 b 0 he]; rfl, by omega⟩
  obtain ⟨R, hR⟩ : ∃ R, R = if (rrange 0 200 b 0).2.1 = 0 then qrows N (rrange 0 200 b 0).2.2 else none := ⟨_, rfl⟩
  have HQS : Hid (qsteps b = R.bind fun q => if q.2 = [] then some q.1 else none) := by
    show _ = _
    rw [HQ0.out, hR, hN, Int.toNat_natCast]
    split <;> rfl
  have HR1 := Lib.hid hR
  have HCR := Lib.hid (rRange_at F w.heap.size 0 200 b 0 _ hr0 (by omega))
  unfold two at HCR
  rw [hN] at HCR
  have HF0 := Lib.hid hf0
  clear hF hb hbl hbp hf0 hr0 hR hc hm HQ0 hN
  generalize (rrange 0 200 b 0).2.1 = e1 at *
  generalize (rrange 0 200 b 0).2.2 = l1 at *
  have HRNG : Hid (∀ W p l, RdR F W p l 0 → Calls Tryz.prog 51 #[.pointer (some ⟨p, 0, none⟩), .int .i64 1, .int .i64 200] W (RetQ F W p (two (rrange 1 200 l 0).1 (rrange 1 200 l 0).2.1) (rrange 1 200 l 0).2.2 (rrange 1 200 l 0).2.1)) := fun W p l h => rRange_at F p 1 200 l 0 W h (by omega)
  have HTXT : Hid (∀ W p l, RdR F W p l 0 → Calls Tryz.prog 52 #[.pointer (some ⟨p, 0, none⟩), .int .i64 1000] W (RetQ F W p (twoS (rtext 1000 l 0).1 (rtext 1000 l 0).2.1) (rtext 1000 l 0).2.2 (rtext 1000 l 0).2.1)) := fun W p l h => rText_at F p 1000 l 0 W h (by omega)
  have HREAD : Hid (∀ W A n c t, (t : List UInt8).length = n → Rd W (fun _ => True) 1 A n (bs t) → n ≤ c → c ≤ maxLen → n ≤ 1000 → Calls Tryz.prog 53 #[.slice A n c] W (RetOd (readO t) (readE t) W)) := fun W A n c t h1 h2 h3 h4 h5 => refread_any _ A n c t W h1 ((h2.lt (by omega)).more (G := fun k => k < W.heap.size) fun k hk => hk.2) (fun k hk => hk) h3 h4 (by omega)
  unfold two at HRNG
  unfold twoS at HTXT
  go_enter Tryz.func22, Tryz.ntmps22
  go_wp2_with fail
  (with_reducible refine HCR.out.mono ?_)
  rintro e w3 ⟨rfl, hr3, hf3⟩
  obtain ⟨p, hp⟩ : ∃ p, p = w.heap.size := ⟨_, rfl⟩
  rw [← hp] at hr3 hf3 ⊢
  have HFB : Hid (∀ W, Fr (At1 p) w3 W → Fr No w W) := fun W hW => HF0.out.trans' (hf3.trans hW) fun i hi hlt => by
    have : i = p := hi
    omega
  have HP3 : Hid (p < w3.heap.size) := by
    have h1 := hf3.size
    rw [World.size_alloc] at h1
    show _ < _
    omega
  have HFK : Hid (∀ k, F k → k < w3.heap.size) := fun k hk => by
    have h0 := HFL.out k hk
    have h1 := HP3.out
    omega
  have HR3 := Lib.hid hr3
  have HB3 : Hid (∀ W, Fr (At1 p) w3 W → Rd W F 1 A b.length (bs b)) := fun W hW => HBR.out.fr (by omega) (HFB.out W hW) (fun _ _ _ h => h)
  clear hr3 hf3 HCR HF0 HBR HFL hp
  go_upto_block 0 with (fail)
  go_cut [7, 8] (fun ov _ wx => IqEnd F w3 p N R ov wx)
  case first =>
    go_wp2_with fail
    go_loopw [7, 8] (fun ov iv wr => IqRel F w3 p N R ov iv wr) (fun _ iv _ => N - (intOf iv).toNat)
    case atStart =>
      refine ⟨0, [], l1, e1, Nat.zero_le _, rfl, Fr.refl _ _, fun k hk => (by cases hk), rfl, RowsT.nil _, HR3.out, ⟨fun o ho => (by simp [flatS] at ho), fun s hs => (by cases hs)⟩, hre, ?_⟩
      by_cases he : e1 = 0
      · refine .inl ⟨he, ?_⟩
        rw [HR1.out, if_pos he, Nat.sub_zero]
        cases qrows N l1 with
        | none => rfl
        | some r => rfl
      · exact .inr ⟨he, by rw [HR1.out, if_neg he]⟩
    case round =>
      obtain ⟨i, S, l', e, hi, rfl, hfr, hnew, hSi, hrows, hrd, hok, he5, hcase⟩ := hrel
      have hi62 : (i : Int) ≤ 200 := by omega
      obtain ⟨SVA, SVc, rfl, hSc, -⟩ := hrows.form
      obtain ⟨Ar, cr, hcell⟩ := rdr_cells hrd
      obtain ⟨r0, r1⟩ := hcell _ (Fr.refl _ _)
      clear hcell
      by_cases hlt : i < N
      · have hlti : (i : Int) < (N : Int) := by omega
        rcases hcase with ⟨rfl, hR⟩ | ⟨he0, hR⟩
        · have HCALL := Lib.hid (HRNG.out wr p l' hrd)
          have hm5 : (rrange 1 200 l' 0).2.1 < 5 := rrange_err 1 200 l' 0 (by omega)
          have HHR := Lib.hid hR
          have HFR := Lib.hid hfr
          have HNEW := Lib.hid hnew
          have HRW := Lib.hid hrows
          have HRD := Lib.hid hrd
          have HOK := Lib.hid hok
          have HRST : Hid (rstep 200 l' = if (rrange 1 200 l' 0).2.1 = 0 then rords (rrange 1 200 l' 0).1.toNat (rrange 1 200 l' 0).2.2 else none) := rfl
          obtain ⟨M, hM, hM2, hM0⟩ : ∃ M : Nat, (rrange 1 200 l' 0).1 = (M : Int) ∧ M ≤ 200 ∧ ((rrange 1 200 l' 0).2.1 ≠ 0 → M = 0) := by
            by_cases he : (rrange 1 200 l' 0).2.1 = 0
            · obtain ⟨hb0, hb1, hb2⟩ := rrng_only 1 200 l' he
              exact ⟨(rrange 1 200 l' 0).1.toNat, by omega, by omega, fun h => absurd he h⟩
            · exact ⟨0, by rw [rrange_zero 1 200 l' 0 he]; rfl, by omega, fun _ => rfl⟩
          rw [hM] at HCALL HRST
          rw [Int.toNat_natCast] at HRST
          clear hR hfr hnew hrows hrd hok he5 hM
          generalize (rrange 1 200 l' 0).2.1 = em at *
          generalize (rrange 1 200 l' 0).2.2 = lm at *
          go_wp2_with fail
          (with_reducible refine HCALL.out.mono ?_)
          rintro e w4 ⟨rfl, hr4, hf4⟩
          have HR4 := Lib.hid hr4
          have HF4 := Lib.hid (HFR.out.trans hf4)
          have HS4 := Lib.hid (rowsT_p HRD.out HRW.out hf4)
          have HM0 := Lib.hid hM0
          have hSl : S.length ≤ 200 := by omega
          have HLI : Hid (S.length = i) := hSi
          obtain ⟨A4, c4, hcell4⟩ := rdr_cells hr4
          obtain ⟨q0, q1⟩ := hcell4 _ (Fr.refl _ _)
          have HBX : Hid (S.length + 1 ≤ maxLen ∧ (S.length + 1) * 24 ≤ 140737488355328) := by
            refine ⟨?_, ?_⟩ <;> (try simp only [maxLen]) <;> omega
          have HNXT : Hid (∀ (wx w6 w7 : World) (L : List Od) (rest : List UInt8) (e : Nat) (ov' sv : Value) (vs : List Value), Fr (At1 p) w4 wx → Own wx 22 1 (.slice SVA S.length SVc) S.length vs → (∀ (j : Nat) (v : Value) (s : List Od), vs[j]? = some v → S[j]? = some s → RowT wx v s) → RowT wx sv L → RdR F wx p rest e → (∀ o ∈ L, rightO o = true) → L.length ≤ 200 → e < 5 → ((e = 0 ∧ rstep 200 l' = some (L, rest)) ∨ (e ≠ 0 ∧ rstep 200 l' = none)) → Fr No wx w6 → Fr (AtO (Value.slice SVA S.length SVc).ownBlock) w6 w7 → Own w7 22 1 ov' (S.length + 1) (vs ++ [sv]) → (ov'.ownBlock = (Value.slice SVA S.length SVc).ownBlock ∨ ov'.ownBlock = some w6.heap.size) → IqRel F w3 p N R ov' (.int .i64 ((i + 1 : Nat) : Int)) w7) := fun wx w6 w7 L rest e ov' sv vs a1 a2 a3 a4 a5 a6 a7 a8 a9 a10 a11 a12 a13 => iq_next hlt HLI.out HNEW.out HFK.out HP3.out HOK.out HHR.out (HF4.out.trans a1) a2 a3 a4 a5 a6 a7 a8 a9 a10 a11 a12 a13
          clear hr4 hf4 hcell4 hM0 hSi HCALL r0 r1
          go_wp2
          by_cases hem : em = 0
          · subst hem
            have HRS2 : Hid (rstep 200 l' = rords M lm) := by show _ = _; rw [HRST.out, if_pos rfl]
            have HBAD : Hid (∀ W, Fr (At1 p) w4 W → rords M lm = none → ImpRet w b (.returned (.tuple #[.slice none 0 0, .int .i64 3])) W) := fun W hW hn => by
              refine ⟨HFB.out W (HF4.out.trans hW), .inr ⟨import_no1 ?_, rfl⟩⟩
              have hNi : N - i = (N - (i + 1)) + 1 := by omega
              rw [HQS.out, HHR.out, hNi, qrows_succ, HRS2.out, hn]
              rfl
            have HS34 : Hid (w3.heap.size ≤ w4.heap.size) := HF4.out.size
            clear q0 q1
            go_loopw [11, 12] (fun sv kv wx => IkRel F w4 p M (rords M lm) sv kv wx) (fun _ kv _ => M - (intOf kv).toNat)
            case atStart =>
              refine ⟨0, [], lm, Nat.zero_le _, rfl, Fr.refl _ _, fun k hk => (by cases hk), rfl, RowT.nil _, HR4.out, ?_, fun o ho => (by cases ho)⟩
              rw [Nat.sub_zero]
              cases rords M lm with
              | none => rfl
              | some r => rfl
            case round =>
              obtain ⟨k, L, l2, hk, rfl, hfr5, hnew5, hLk, hrow5, hrd5, hR5, hok5⟩ := hrel
              have hk62 : (k : Int) ≤ 200 := by omega
              obtain ⟨LVA, LVc, rfl, hLc, -⟩ := hrow5.form
              obtain ⟨A5, c5, hcell5⟩ := rdr_cells hrd5
              obtain ⟨s0, s1⟩ := hcell5 _ (Fr.refl _ _)
              clear hcell5
              by_cases hkM : k < M
              · have hkMi : (k : Int) < (M : Int) := by omega
                have HT := Lib.hid (HTXT.out wr p l2 hrd5)
                have HCASE := Lib.hid (rords_case hkM hR5)
                have htm : ((rtext 1000 l2 0).1.length : Int) ≤ 1000 := rtext_most 1000 (by omega) l2 0
                have HROW5 := Lib.hid hrow5
                have HRD5 := Lib.hid hrd5
                have HFR5 := Lib.hid hfr5
                have HNEW5 := Lib.hid hnew5
                have HOK5 := Lib.hid hok5
                have HLK : Hid (L.length = k) := hLk
                have hLl : L.length ≤ 200 := by omega
                have HBY : Hid (L.length + 1 ≤ maxLen ∧ (L.length + 1) * 120 ≤ 140737488355328) := by
                  refine ⟨?_, ?_⟩ <;> (try simp only [maxLen]) <;> omega
                clear hrow5 hrd5 hfr5 hnew5 hok5 hR5 hLk
                generalize (rtext 1000 l2 0).1 = t at *
                generalize (rtext 1000 l2 0).2.1 = te at *
                generalize (rtext 1000 l2 0).2.2 = lt at *
                go_wp2_with fail
                (with_reducible refine HT.out.mono ?_)
                rintro e w6 ⟨rfl, hr6, hf6⟩
                have HR6 := Lib.hid hr6
                have HROW6 := Lib.hid (rowT_p HRD5.out HROW5.out hf6)
                have HF6 := Lib.hid (HFR5.out.trans hf6)
                obtain ⟨c7, w7, hcv, hf7, hrd7, hc71, hc72⟩ := bytes_of_strC (P := Tryz.prog) w6 9 25 5 t Tryz.underlying9 Tryz.underlying25 Tryz.underlying5 (by omega)
                have HF7 := Lib.hid hf7
                have HX7 := Lib.hid (HREAD.out w7 _ _ c7 t rfl hrd7 hc71 hc72 (by omega))
                clear hr6 hf6 hf7 hrd7
                go_wp2_with fail
                (with_reducible refine HX7.out.mono ?_)
                rintro e w8 ⟨v, rfl, hl8, hf8⟩
                have HF8 := Lib.hid (HF7.out.trans hf8)
                have HL8 := Lib.hid hl8
                obtain ⟨Al, cl_, rfl, -, -⟩ := hl8.form
                have HOK8 : Hid ((readO t).ok ∧ ∀ g ∈ (readO t).legs, g.ok) := read_ok t
                clear hl8 hf8 hcv hc71 hc72 HT HX7 s0 s1
                generalize readE t = re at *
                generalize readO t = o at *
                obtain ⟨cl, sq, kd, acct, peer, sum, lg, per, hold, note⟩ := o
                unfold Od.val Od.cs at *
                simp only at HL8 HOK8 HCASE ⊢
                have hb6 := Blk.new w8 47 #[.int .i64 cl, .int .i64 sq, .int .i64 kd, .string acct, .string peer, .int .i64 sum, .slice Al lg.length cl_, .int .i64 per, .int .i64 hold, .string note]
                have hf9 : Fr No w8 (w8.alloc (.cells #[.int .i64 cl, .int .i64 sq, .int .i64 kd, .string acct, .string peer, .int .i64 sum, .slice Al lg.length cl_, .int .i64 per, .int .i64 hold, .string note] 47)) := (Fr.refl _ _).alloc _
                go_upto_region 14 with (fail)
                obtain ⟨w9, hw9⟩ : ∃ w9, w9 = w8.alloc (.cells #[.int .i64 cl, .int .i64 sq, .int .i64 kd, .string acct, .string peer, .int .i64 sum, .slice Al lg.length cl_, .int .i64 per, .int .i64 hold, .string note] 47) := ⟨_, rfl⟩
                rw [← hw9] at hb6 hf9 ⊢
                have HF9 := Lib.hid hf9
                have x0 := hb6.cell 0
                have x1 := hb6.cell 1
                have x2 := hb6.cell 2
                have x3 := hb6.cell 3
                have x4 := hb6.cell 4
                have x5 := hb6.cell 5
                have x6 := hb6.cell 6
                have x7 := hb6.cell 7
                have x8 := hb6.cell 8
                have x9 := hb6.cell 9
                simp only [List.getElem?_toArray, List.getElem?_cons_zero, List.getElem?_cons_succ] at x0 x1 x2 x3 x4 x5 x6 x7 x8 x9
                clear hw9 hb6 hf9
                rcases HCASE.out with ⟨rfl, rfl, hro, hRk⟩ | ⟨rfl, hRk⟩
                · have HRK := Lib.hid hRk
                  have HRO := Lib.hid hro
                  obtain ⟨cells, ho6, hE6⟩ := HROW6.out
                  have HO6 := Lib.hid ho6
                  have HE6 := Lib.hid hE6
                  have HF69 : Hid (Fr No w6 w9) := HF8.out.trans HF9.out
                  have HO9 := Lib.hid (ho6.fr HF69.out (fun _ _ h => h))
                  clear ho6 hE6 hro hRk HCASE
                  go_wp2_with (first | (at_builtin; refine wpList_app _ rfl (.tmp 69) (.tmp 71) 22 22 rfl elO (HO9.out.alloc _) rfl (Src.of_new (cs := #[.int .i64 cl, .int .i64 sq, .int .i64 kd, .string acct, .string peer, .int .i64 sum, .slice Al lg.length cl_, .int .i64 per, .int .i64 hold, .string note]) (t := 47) w9.heap.size (heap_alloc_new w9 _) Tryz.underlying22 rfl (by simp [Value.oneCell'])) rfl HBY.out.1 HBY.out.2 ?_; intro v10 w10 ho10 hf10 hn10; have HO10 := Lib.hid ho10; have HF10 := Lib.hid hf10; have HN10 := Lib.hid hn10; clear ho10 hf10 hn10) | fail)
                  go_roundw
                  case rel =>
                    have z1 := HF6.out.size
                    have z2 := HF69.out.size
                    have z3 := HS34.out
                    refine ⟨_, _, _, _, (?_ : IkRel F w4 p M (rords M lm) v10 (.int .i64 ((k : Int) + 1)) w10), rfl, rfl, rfl, rfl⟩
                    refine ⟨k + 1, L ++ [⟨cl, sq, kd, acct, peer, sum, lg, per, hold, note⟩], lt, hkM, by go_num, ((HF6.out.trans (HF69.out.mono fun _ _ h => h.elim)).alloc _).trans' HF10.out (fun j hj hlt => ?_), fun b hb => ?_, by rw [List.length_append, HLK.out]; rfl, rowT_snoc (o := ⟨cl, sq, kd, acct, peer, sum, lg, per, hold, note⟩) (vl := .slice Al lg.length cl_) HO6.out HE6.out (HF69.out.alloc _) HOK8.out.1 ((HL8.out.fr HF9.out (fun _ _ h => h)).alloc _) HOK8.out.2 HF10.out HO10.out, (HR6.out.no (HF69.out.alloc _)).fr HF10.out (fun h => ?_) (fun j hj h => ?_), HRK.out, fun x hx => ?_⟩
                    · have := HNEW5.out j hj
                      omega
                    · rcases HN10.out with h | h
                      · rw [h] at hb; exact HNEW5.out b hb
                      · rw [h] at hb
                        injection hb with hb
                        rw [World.size_alloc] at hb
                        omega
                    · have := HNEW5.out p h
                      have := HP3.out
                      omega
                    · have := HNEW5.out j h
                      have := HFK.out j hj
                      omega
                    · rcases List.mem_append.1 hx with hx | hx
                      · exact HOK5.out x hx
                      · rw [List.mem_singleton] at hx
                        rw [hx]; exact HRO.out
                  case measure => simp [intOf]; omega
                · have HRET := Lib.hid (HBAD.out w9 (HF6.out.trans ((HF8.out.trans HF9.out).mono fun _ _ h => h.elim)) hRk)
                  clear hRk HCASE
                  go_wp2
                  go_ret2
                  exact HRET.out
              · obtain rfl : k = M := by omega
                have hNN : ¬ ((k : Int) < (k : Int)) := by omega
                obtain ⟨vs, hown, hE⟩ := rowsT_p HR4.out HS4.out hfr5
                have HO5 := Lib.hid hown
                have hst : rstep 200 l' = some (L, l2) := by
                  rw [HRS2.out, hR5, Nat.sub_self]
                  simp [rords]
                have HNX : Hid (∀ (w7 : World) (ov' : Value), Fr (AtO (Value.slice SVA S.length SVc).ownBlock) (wr.alloc (.cells #[.slice LVA L.length LVc] 22)) w7 → Own w7 22 1 ov' (S.length + 1) (vs ++ [.slice LVA L.length LVc]) → (ov'.ownBlock = (Value.slice SVA S.length SVc).ownBlock ∨ ov'.ownBlock = some (wr.alloc (.cells #[.slice LVA L.length LVc] 22)).heap.size) → IqRel F w3 p N R ov' (.int .i64 ((i + 1 : Nat) : Int)) w7) := fun w7 ov' a1 a2 a3 => HNXT.out wr _ w7 L l2 0 ov' _ vs hfr5 hown hE hrow5 hrd5 hok5 (by omega) (by omega) (.inl ⟨rfl, hst⟩) ((Fr.refl _ _).alloc _) a1 a2 a3
                clear hfr5 hnew5 hrow5 hrd5 hR5 hok5 hown hE hst hLk
                go_wp2_with (first | (at_builtin; refine wpList_app _ rfl (.tmp 73) (.tmp 75) 29 29 rfl elRow (HO5.out.alloc _) rfl (Src.of_new (cs := #[.slice LVA L.length LVc]) (t := 22) wr.heap.size (heap_alloc_new wr _) Tryz.underlying29 rfl (by simp [Value.oneCell'])) rfl HBX.out.1 HBX.out.2 ?_; intro v7 w7 ho7 hf7 hn7; have HRL := Lib.hid (HNX.out _ _ hf7 ho7 hn7); clear ho7 hf7 hn7) | fail)
                go_roundw
                case rel =>
                  obtain ⟨i', S', l9, e9, h1, h2, h3⟩ := HRL.out
                  exact ⟨i', S', l9, e9, h1, by rw [← h2]; go_num, h3⟩
                case measure => simp [intOf]; omega
          · obtain rfl : M = 0 := HM0.out hem
            have hst : rstep 200 l' = none := by rw [HRST.out, if_neg hem]
            obtain ⟨vs, hown, hE⟩ := HS4.out
            have HO5 := Lib.hid hown
            have hm5' : em < 5 := hm5
            have HNX : Hid (∀ (w7 : World) (ov' : Value), Fr (AtO (Value.slice SVA S.length SVc).ownBlock) (w4.alloc (.cells #[.slice none 0 0] 22)) w7 → Own w7 22 1 ov' (S.length + 1) (vs ++ [.slice none 0 0]) → (ov'.ownBlock = (Value.slice SVA S.length SVc).ownBlock ∨ ov'.ownBlock = some (w4.alloc (.cells #[.slice none 0 0] 22)).heap.size) → IqRel F w3 p N R ov' (.int .i64 ((i + 1 : Nat) : Int)) w7) := fun w7 ov' a1 a2 a3 => HNXT.out w4 _ w7 [] lm em ov' _ vs (Fr.refl _ _) hown hE (RowT.nil _) HR4.out (fun o ho => (by cases ho)) (by simp) hm5' (.inr ⟨hem, hst⟩) ((Fr.refl _ _).alloc _) a1 a2 a3
            clear hown hE hst HRST
            refine wp_loop_rounds 1 ?_
            rw [rounds_succ]
            go_wp2_with (first | (at_builtin; refine wpList_app _ rfl (.tmp 73) (.tmp 75) 29 29 rfl elRow (HO5.out.alloc _) rfl (Src.of_new (cs := #[.slice none 0 0]) (t := 22) w4.heap.size (heap_alloc_new w4 _) Tryz.underlying29 rfl (by simp [Value.oneCell'])) rfl HBX.out.1 HBX.out.2 ?_; intro v7 w7 ho7 hf7 hn7; have HRL := Lib.hid (HNX.out _ _ hf7 ho7 hn7); clear ho7 hf7 hn7) | fail)
            go_roundw
            case rel =>
              obtain ⟨i', S', l9, e9, h1, h2, h3⟩ := HRL.out
              exact ⟨i', S', l9, e9, h1, by rw [← h2]; go_num, h3⟩
            case measure => simp [intOf]; omega
        · have HEND : Hid (IqEnd F w3 p N R (.slice SVA S.length SVc) wr) := ⟨S, l', e, by omega, hfr, hrows, hrd, hok, he5, .inr ⟨he0, hR⟩⟩
          have hki : ((e : Int) == 0) = false := beq_eq_false_iff_ne.2 (by omega)
          have hkn : (e == 0) = false := beq_eq_false_iff_ne.2 he0
          have hke : ¬ ((e : Int) = 0) := by omega
          clear hfr hnew hrows hrd hok hR hSi
          go_wp2
          go_meet
          exact HEND.out
      · obtain rfl : i = N := by omega
        have hNN : ¬ ((i : Int) < (i : Int)) := by omega
        have HEND : Hid (IqEnd F w3 p i R (.slice SVA S.length SVc) wr) := by
          refine ⟨S, l', e, by omega, hfr, hrows, hrd, hok, he5, ?_⟩
          rcases hcase with ⟨h1, h2⟩ | h
          · refine .inl ⟨h1, ?_⟩
            rw [h2, Nat.sub_self]
            simp [qrows]
          · exact .inr h
        clear hfr hnew hrows hrd hok hcase hSi
        go_wp2
        go_meet
        exact HEND.out
  case rest =>
    obtain ⟨S, l', e, hSN, hfr, hrows, hrd, hok, he5, hcase⟩ := hcut
    obtain ⟨w4, rfl⟩ : ∃ w4 : World, w4 = wc := ⟨_, rfl⟩
    obtain ⟨SVA, SVc, rfl, hSc, -⟩ := hrows.form
    obtain ⟨Ar, cr, hcell⟩ := rdr_cells hrd
    have hfl := hok.len
    have hleg : ∀ o ∈ flatS S, o.legs.length ≤ 100 := fun o ho => by
      have := (right_short (hok.1 o ho)).legs
      omega
    have hsts : StS w4 SVA S := hrows.sts (fun s hs => by have := hok.2 s hs; omega) (fun s hs o ho => by
      have := hleg o (List.mem_flatten.2 ⟨s, hs, ho⟩)
      omega)
    have HCELL := Lib.hid hcell
    have HSTS := Lib.hid hsts
    have HLAY := Lib.hid (reflay_any SVA SVc S w4 hsts (by omega) (by omega))
    have HEXP : Hid (∀ W A c, Ls W Tr A c (flatS S) → Calls Tryz.prog 13 #[.slice A (flatS S).length c] W (ExpRet W (flatS S))) := fun W A c h => refexport_any W Tr A c _ h hleg
    have HLEG : Hid (∀ o ∈ flatS S, o.legs.length ≤ 100000) := fun o ho => by have := hleg o ho; omega
    have HFW := Lib.hid (HFB.out w4 hfr)
    have HBS : Hid (∀ W, Fr No w4 W → Rd W F 1 A b.length (bs b)) := fun W hW => HB3.out W (hfr.trans (hW.mono fun _ _ h => h.elim))
    have HOKR : Hid (∀ o ∈ flatS S, rightO o = true) := hok.1
    have HQ : Hid ((e = 0 ∧ l' = [] ∧ qsteps b = some S) ∨ ((e ≠ 0 ∨ l' ≠ []) ∧ qsteps b = none)) := by
      rcases hcase with ⟨h1, h2⟩ | ⟨h1, h2⟩
      · by_cases hl : l' = []
        · exact .inl ⟨h1, hl, by rw [HQS.out, h2, Option.bind_some, if_pos hl]⟩
        · exact .inr ⟨.inr hl, by rw [HQS.out, h2, Option.bind_some, if_neg hl]⟩
      · exact .inr ⟨.inl h1, by rw [HQS.out, h2]; rfl⟩
    have hn40 : (flatS S).length ≤ 40000 := by omega
    clear hfr hrows hrd hok hcase hsts hcell hleg hfl HB3 HQS HRNG HTXT HREAD HFB
    go_wp2_with fail
    (with_reducible refine HLAY.out.mono ?_)
    rintro e5 w5 ⟨v, rfl, ho5, hf5, -⟩
    obtain ⟨A5, c5, rfl, h51, h52⟩ := ho5.form
    have HX5 := Lib.hid (HEXP.out w5 A5 c5 ⟨(ho5.ods.up hf5).more fun _ _ => trivial, by omega, h51, HLEG.out⟩)
    have HF5 := Lib.hid hf5
    clear ho5 hf5 HLAY HEXP
    go_wp2_with fail
    (with_reducible refine HX5.out.mono ?_)
    rintro e6 w6 ⟨hf6, hyes, hno⟩
    have HF6 := Lib.hid (HF5.out.trans hf6)
    have HFW6 := Lib.hid (HFW.out.trans HF6.out)
    obtain ⟨r0, r1⟩ := HCELL.out w6 HF6.out
    clear hf6
    have HBAD : Hid ((∀ S', rsteps b = some S' → ¬ NormalO S') → ImpRet w b (.returned (.tuple #[.slice none 0 0, .int .i64 3])) w6) := fun h => ⟨HFW6.out, .inr ⟨h, rfl⟩⟩
    cases hex : expB (flatS S)
    · obtain rfl := hno hex
      have HRET : Hid (ImpRet w b (.returned (.tuple #[.slice none 0 0, .int .i64 3])) w6) := HBAD.out (by
        rcases HQ.out with ⟨-, -, h3⟩ | ⟨-, h3⟩
        · exact import_no2 h3 hex HOKR.out
        · exact import_no1 h3)
      clear hyes hno
      by_cases he0 : e = 0
      · subst he0
        by_cases hl0 : l'.length = 0
        · rw [hl0] at r0
          go_wp2
          go_ret2
          exact HRET.out
        · have hlp : (0 : Int) < (l'.length : Int) := by omega
          go_wp2
          go_ret2
          exact HRET.out
      · have hki : ((e : Int) != 0) = true := bne_iff_ne.2 (by omega)
        have hkn : (e != 0) = true := bne_iff_ne.2 he0
        have hke : ¬ ((e : Int) = 0) := by omega
        go_wp2
        go_ret2
        exact HRET.out
    · obtain ⟨Ax, cx, T, hT, rfl, hox⟩ := hyes hex
      have HT := Lib.hid hT
      have HOX := Lib.hid hox
      clear hyes hno hT hox
      rcases HQ.out with ⟨rfl, rfl, hq⟩ | ⟨hbad, hq⟩
      · have HQQ := Lib.hid hq
        have hcv1 := run_str_of_bytes (P := Tryz.prog) (c := cx) 25 9 5 Tryz.underlying25 Tryz.underlying5 Tryz.underlying9 HOX.out.rd
        have hcv2 := run_str_of_bytes (P := Tryz.prog) (c := c) 25 9 5 Tryz.underlying25 Tryz.underlying5 Tryz.underlying9 (HBS.out w6 HF6.out)
        have HEX := Lib.hid hex
        clear hq
        rw [show ([] : List UInt8).length = 0 from rfl] at r0
        by_cases hbe : stepsB T = b
        · have HRET : Hid (ImpRet w b (.returned (.tuple #[.slice SVA S.length SVc, .int .i64 0])) w6) := by
            obtain ⟨g1, g2⟩ := import_yes HQQ.out HEX.out HT.out hbe
            exact ⟨HFW6.out, .inl ⟨SVA, SVc, S, g1, g2, rfl, HSTS.out.no HF6.out, hSc⟩⟩
          rw [hbe] at hcv1
          have hbb : (b == b) = true := beq_self_eq_true _
          go_wp2
          go_ret2
          exact HRET.out
        · have HRET : Hid (ImpRet w b (.returned (.tuple #[.slice none 0 0, .int .i64 3])) w6) := HBAD.out (import_no3 HQQ.out HT.out hbe)
          have hz1 : (stepsB T != b) = true := by rw [bne_iff_ne]; exact hbe
          have hz0 : (stepsB T == b) = false := beq_eq_false_iff_ne.2 hbe
          have hz2 : ((⟨(stepsB T).toArray⟩ : ByteArray).toList == (⟨b.toArray⟩ : ByteArray).toList) = false := by rw [ByteArray.toList_eq, ByteArray.toList_eq]; exact hz0
          go_wp2
          go_ret2
          exact HRET.out
      · have HRET : Hid (ImpRet w b (.returned (.tuple #[.slice none 0 0, .int .i64 3])) w6) := HBAD.out (import_no1 hq)
        have HBB := Lib.hid hbad
        clear hbad hq
        by_cases he0 : e = 0
        · subst he0
          have hl0 : l'.length ≠ 0 := fun h => by
            rcases HBB.out with h1 | h1
            · exact h1 rfl
            · exact h1 (List.length_eq_zero_iff.1 h)
          have hlp : (0 : Int) < (l'.length : Int) := by omega
          go_wp2
          go_ret2
          exact HRET.out
        · have hki : ((e : Int) != 0) = true := bne_iff_ne.2 (by omega)
          have hkn : (e != 0) = true := bne_iff_ne.2 he0
          have hke : ¬ ((e : Int) = 0) := by omega
          go_wp2
          go_ret2
          exact HRET.out
end Go.Proofs.YtnphncemghfkbaaGreat
