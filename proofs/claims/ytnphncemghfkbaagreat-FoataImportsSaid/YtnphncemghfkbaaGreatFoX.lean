/- The document's Steps, walked. -/
import Derived.Test.YtnphncemghfkbaaGreatFoW
import Derived.Test.YtnphncemghfkbaaGreatClashU
namespace Go.Proofs.YtnphncemghfkbaaGreat
open Go.RowKit Go.My Go.Maps Go.WideMaps
set_option linter.unusedSimpArgs false
set_option linter.unusedVariables false
attribute [local go_sem ↓] Go.wp_at_zero Go.wp_at_succ

set_option maxRecDepth 100000 in
set_option maxHeartbeats 8000000 in
theorem refsteps_any (w : World) (F : Nat → Prop) (A : Option Addr) (c : Nat) (l : List Od) (hl : Ls w F A c l) (hn : l.length ≤ 100000) :
    Calls Tryz.prog 16 #[.slice A l.length c] w (StepsRet w l) := by
  have HRT := Lib.hid (refright10_any w w F A c l hl.ods hl.n)
  cases hrt : rightL l
  · rw [hrt] at HRT
    unfold StepsRet
    rw [hrt]
    clear hl
    go_enter Tryz.func16, Tryz.ntmps16
    go_wp2_with fail
    (with_reducible refine HRT.out.mono ?_)
    rintro e w1 ⟨rfl, hf1⟩
    go_wp2
    go_ret
    exact ⟨none, 0, [], rfl, Nat.le_refl _, StS.nil _, hf1, fun h => (by cases h), fun _ => rfl⟩
  · rw [hrt] at HRT
    have HRl : Hid (Rt Od.id l) := (rightL_iff _).1 hrt
    have HLS : Hid (∀ o ∈ l, o.legs.length ≤ 100000) := hl.s
    have HODS := Lib.hid hl.ods
    have hlc := hl.c
    have HCL : Hid (∀ (w1 : World) (F G : Nat → Prop) (x y : Od) (v u : Value), x.ok → (∀ g ∈ x.legs, g.ok) → y.ok → (∀ g ∈ y.legs, g.ok) → LgS w1 F v x.legs → LgS w1 G u y.legs → x.legs.length ≤ 100000 → y.legs.length ≤ 100000 → ∀ W, Fr No w1 W → Calls Tryz.prog 42 #[x.val v, y.val u] W fun e w' => e = .returned (.bool (clashB x y)) ∧ Fr No W w') := fun w1 F G x y v u a1 a2 b1 b2 h1 h2 h3 h4 W hW => refclash_any F G x y v u W a1 a2 b1 b2 (h1.no hW) (h2.no hW) h3 h4
    have HAH : Hid (∀ a b c d W, Calls Tryz.prog 43 #[.agg #[.int .i64 a, .int .i64 b], .agg #[.int .i64 c, .int .i64 d]] W fun e w' => e = .returned (.bool (aheadI a b c d)) ∧ Fr No W w') := fun a b c d W => refaheadI_any a b c d W
    have HFIN : Hid (∀ (W : World) (ov : Value) (D : List (List Od)), RowsW w W ov D → (∀ T, StepsO [] T → StepsO l (D ++ T)) → Fr No w W → StepsRet w l (.returned ov) W) := fun W ov D hR hst hf => by
      have hS : StepsO l D := by
        have := hst [] StepsR.nil
        rwa [List.append_nil] at this
      obtain ⟨A2, c2, rfl, h1, h2⟩ := hR.form
      have hfl := (ak_flat HRl.out hS).1
      have hmem := hS.mem HRl.out.nodup
      refine ⟨A2, c2, D, rfl, h1, hR.sts hf (fun s hs => ?_) (fun s hs o ho => HLS.out o ((hmem o).1 (List.mem_flatten.2 ⟨s, hs, ho⟩))), hf, fun _ => hS, fun h => ?_⟩
      · have := len_mem hs
        omega
      · rw [hrt] at h; cases h
    clear hl hrt
    go_enter Tryz.func16, Tryz.ntmps16
    go_wp2_with fail
    (with_reducible refine HRT.out.mono ?_)
    rintro e w1 ⟨rfl, hf1⟩
    have HF1 := Lib.hid hf1
    clear hf1
    go_wp2
    go_loopw [0, 3] (fun lv ov wr => R0 w l lv ov wr) (fun lv _ _ => lenV lv)
    case atStart => exact ⟨l, [], ⟨A, c, rfl, hlc, (HODS.out.more fun _ _ => trivial).fr HF1.out (fun _ _ _ h => h)⟩, ⟨[], Own.nil _ _ _, fun j v s h => (by simp at h)⟩, HRl.out, fun o h => h, fun T h => h, by simp, HF1.out, .inl rfl⟩
    case round =>
      obtain ⟨l', D, hcur, hrows, hrt', hsub, hst, hlen, hfr, hnew⟩ := hrel
      obtain ⟨A1, c1, rfl, hc1, hods⟩ := hcur.v
      by_cases hz : l' = []
      · subst hz
        have HEND := Lib.hid (HFIN.out _ _ _ hrows hst hfr)
        clear hcur hrows hrt' hsub hst hlen hfr hnew hods hc1
        go_wp2
        go_ret
        exact HEND.out
      · have hl0 : 0 < l'.length := List.length_pos_iff.2 hz
        have hpos : (0 : Int) < (l'.length : Int) := by omega
        have hl62 : l'.length ≤ 100000 := by omega
        obtain ⟨vs, hro, hroE⟩ := hrows
        obtain ⟨Ao, co, rfl, hoc, hoc2⟩ := hro.form
        have HNEXT : Hid (∀ (w1 w2 wr2 : World) (st : List Od) (sv rv ov' : Value), OwnO w wr2 sv st → OwnO w wr2 rv (leftL clashB l') → (st.Pairwise fun a b => ltI a.id b.id) → (∀ o, o ∈ st ↔ o ∈ freeL clashB l') → Fr No wr wr2 → Newer wr.heap.size none rv.ownBlock → Fr No wr2 w1 → Fr (AtO (Value.slice Ao D.length co).ownBlock) w1 w2 → Own w2 22 1 ov' (D.length + 1) (vs ++ [sv]) → (ov'.ownBlock = (Value.slice Ao D.length co).ownBlock ∨ ov'.ownBlock = some w1.heap.size) → R0 w l rv ov' w2) := fun w1 w2 wr2 st sv rv ov' a1 a2 a3 a4 a5 a6 a7 a8 a9 a10 => r0_next hz hro hroE hrt' hsub hst hlen hfr hnew a1 a2 a3 a4 a5 a6 a7 a8 a9 a10
        have HRO := Lib.hid hro
        have HODS1 : Hid (∀ W, Fr No wr W → OdsS w W Tr A1 l') := fun W hW => hods.fr hW (fun _ _ _ h => h)
        have HLEG : Hid (∀ o ∈ l', o.legs.length ≤ 100000) := fun o h => HLS.out o (hsub o h)
        have HRT1 := Lib.hid hrt'
        have HDL : Hid (D.length ≤ 100000) := by show _ ≤ _; omega
        have HFW := Lib.hid hfr
        obtain ⟨wo, rfl⟩ : ∃ wo : World, wo = wr := ⟨_, rfl⟩
        clear hcur hro hroE hrt' hsub hst hlen hfr hnew hods HRT
        go_wp2
        go_loopw [4, 5, 6] (fun sv rv iv wx => R2 w wo l' sv rv iv wx) (fun _ _ iv _ => l'.length - (intOf iv).toNat)
        case atStart => exact ⟨0, [], Nat.zero_le _, rfl, OwnO.nil _ _, (by rw [List.take_zero]; exact OwnO.nil _ _), .nil, fun o => (by rw [List.take_zero]; simp [freeL, rowOf, lev]), Nat.le_refl _, (by rw [List.take_zero]; exact Nat.le_refl _), Fr.refl _ _, .inl rfl, .inl rfl, fun k h => (by cases h)⟩
        case round =>
          obtain ⟨i, st, hi, rfl, hsv, hrv, hsort, hmem, hsl, hll, hfi, hns, hnr, hdis⟩ := hrel
          obtain ⟨As, cs, rfl, hsc, hsc2⟩ := hsv.form
          obtain ⟨Ar, cr, rfl, hrc, hrc2⟩ := hrv.form
          have hi62 : (i : Int) ≤ 100000 := by omega
          by_cases hlt : i < l'.length
          · obtain ⟨ad, v, rfl, _, hok, hog, hLg, q0, q1, q2, q3, q4, q5, q6, q7, q8, q9⟩ := (HODS1.out _ hfi).at_ i hlt
            obtain ⟨B, d, rfl, hd1, hd2⟩ := hLg.form
            have HOR : Hid (OdR w (l'[i].cs (.slice B l'[i].legs.length d)) l'[i]) := ⟨_, rfl, hok, hog, hLg⟩
            have HLX := Lib.hid (HLEG.out _ (List.getElem_mem hlt))
            have HCELL : Hid (∀ W, Fr No wr W → W.cell? (ad.add (i * 10)) = some (.int .i64 l'[i].cl) ∧ W.cell? ⟨(ad.add (i * 10)).block, (ad.add (i * 10)).off + 1, none⟩ = some (.int .i64 l'[i].sq) ∧ W.cell? ⟨(ad.add (i * 10)).block, (ad.add (i * 10)).off + 2, none⟩ = some (.int .i64 l'[i].kd) ∧ W.cell? ⟨(ad.add (i * 10)).block, (ad.add (i * 10)).off + 3, none⟩ = some (.string l'[i].acct) ∧ W.cell? ⟨(ad.add (i * 10)).block, (ad.add (i * 10)).off + 4, none⟩ = some (.string l'[i].peer) ∧ W.cell? ⟨(ad.add (i * 10)).block, (ad.add (i * 10)).off + 5, none⟩ = some (.int .i64 l'[i].sum) ∧ W.cell? ⟨(ad.add (i * 10)).block, (ad.add (i * 10)).off + 6, none⟩ = some (.slice B l'[i].legs.length d) ∧ W.cell? ⟨(ad.add (i * 10)).block, (ad.add (i * 10)).off + 7, none⟩ = some (.int .i64 l'[i].per) ∧ W.cell? ⟨(ad.add (i * 10)).block, (ad.add (i * 10)).off + 8, none⟩ = some (.int .i64 l'[i].hold) ∧ W.cell? ⟨(ad.add (i * 10)).block, (ad.add (i * 10)).off + 9, none⟩ = some (.string l'[i].note)) := fun W hW => ⟨hW.cell_some q0 (fun h => h), hW.cell_some q1 (fun h => h), hW.cell_some q2 (fun h => h), hW.cell_some q3 (fun h => h), hW.cell_some q4 (fun h => h), hW.cell_some q5 (fun h => h), hW.cell_some q6 (fun h => h), hW.cell_some q7 (fun h => h), hW.cell_some q8 (fun h => h), hW.cell_some q9 (fun h => h)⟩
            have HC0 : Hid (∀ k (hk : k < l'.length) W v, LgS w (Lt w.heap.size) v l'[k].legs → l'[k].ok → (∀ g ∈ l'[k].legs, g.ok) → Fr No w W → Calls Tryz.prog 42 #[l'[k].val v, l'[i].val (.slice B l'[i].legs.length d)] W fun e w' => e = .returned (.bool (clashB l'[k] l'[i])) ∧ Fr No W w') := fun k hk W v h1 h2 h3 hW => HCL.out w _ _ _ _ _ _ h2 h3 hok hog h1 hLg (HLEG.out _ (List.getElem_mem hk)) HLX.out W hW
            have HSV := Lib.hid hsv
            have HRV := Lib.hid hrv
            have HSO := Lib.hid hsort
            have HME := Lib.hid hmem
            have HFI := Lib.hid hfi
            have HNS := Lib.hid hns
            have HNR := Lib.hid hnr
            have HDI := Lib.hid hdis
            have HHI : Hid (R3 wr l' i hlt (.bool true) (.int .i64 0) wr) := ⟨0, Nat.zero_le _, rfl, (by rw [List.take_zero]; rfl), Fr.refl _ _⟩
            obtain ⟨wi, rfl⟩ : ∃ wi : World, wi = wr := ⟨_, rfl⟩
            clear hsv hrv hsort hmem hfi hns hnr hdis hok hog hLg q0 q1 q2 q3 q4 q5 q6 q7 q8 q9
            go_wp2
            go_loopw [7, 8] (fun fv kv wx => R3 wi l' i hlt fv kv wx) (fun _ kv _ => i - (intOf kv).toNat)
            case atStart => exact HHI.out
            case round =>
              obtain ⟨k, hk, rfl, rfl, hf3⟩ := hrel
              have hk62 : (k : Int) ≤ 100000 := by omega
              obtain ⟨x0, x1, x2, x3, x4, x5, x6, x7, x8, x9⟩ := HCELL.out _ hf3
              by_cases hki : k < i
              · have hkl : k < l'.length := by omega
                obtain ⟨ad2, v, e2, _, hok, hog, hLg, q0, q1, q2, q3, q4, q5, q6, q7, q8, q9⟩ := (HODS1.out _ (HFI.out.trans hf3)).at_ k hkl
                injection e2 with e2
                subst e2
                obtain ⟨B2, d2, rfl, hd3, hd4⟩ := hLg.form
                have HC : Hid (∀ W, Fr No wr W → Calls Tryz.prog 42 #[l'[k].val (.slice B2 l'[k].legs.length d2), l'[i].val (.slice B l'[i].legs.length d)] W fun e w' => e = .returned (.bool (clashB l'[k] l'[i])) ∧ Fr No W w') := fun W hW => HC0.out k hkl W _ hLg hok hog (((HFW.out.trans HFI.out).trans hf3).trans hW)
                have HNX : Hid (∀ W, Fr No wr W → R3 wi l' i hlt (.bool ((!((l'.take k).any fun y => clashB y l'[i])) && !clashB l'[k] l'[i])) (.int .i64 ((k + 1 : Nat) : Int)) W) := fun W hW => ⟨k + 1, hki, rfl, by rw [any_take2 _ _ _ hkl], hf3.trans hW⟩
                have hne : Nonempty (WIn (Fr No wr)) := ⟨⟨_, Fr.refl _ _⟩⟩
                have hkii : (k : Int) < (i : Int) := by omega
                have hkil : (k : Int) < (l'.length : Int) := by omega
                have hil : (i : Int) < (l'.length : Int) := by omega
                unfold Od.val Od.cs at HC
                simp only [List.toArray] at HC
                have HKI : Hid (k + 1 ≤ i) := hki
                clear hok hog hLg hf3
                generalize (!((l'.take k).any fun y => clashB y l'[i])) = fb at *
                generalize clashB l'[k] l'[i] = r at *
                have X0 := fun x : WIn (Fr No wr) => x.h.cell_some x0 (fun h => h)
                have X1 := fun x : WIn (Fr No wr) => x.h.cell_some x1 (fun h => h)
                have X2 := fun x : WIn (Fr No wr) => x.h.cell_some x2 (fun h => h)
                have X3 := fun x : WIn (Fr No wr) => x.h.cell_some x3 (fun h => h)
                have X4 := fun x : WIn (Fr No wr) => x.h.cell_some x4 (fun h => h)
                have X5 := fun x : WIn (Fr No wr) => x.h.cell_some x5 (fun h => h)
                have X6 := fun x : WIn (Fr No wr) => x.h.cell_some x6 (fun h => h)
                have X7 := fun x : WIn (Fr No wr) => x.h.cell_some x7 (fun h => h)
                have X8 := fun x : WIn (Fr No wr) => x.h.cell_some x8 (fun h => h)
                have X9 := fun x : WIn (Fr No wr) => x.h.cell_some x9 (fun h => h)
                have Q0 := fun x : WIn (Fr No wr) => x.h.cell_some q0 (fun h => h)
                have Q1 := fun x : WIn (Fr No wr) => x.h.cell_some q1 (fun h => h)
                have Q2 := fun x : WIn (Fr No wr) => x.h.cell_some q2 (fun h => h)
                have Q3 := fun x : WIn (Fr No wr) => x.h.cell_some q3 (fun h => h)
                have Q4 := fun x : WIn (Fr No wr) => x.h.cell_some q4 (fun h => h)
                have Q5 := fun x : WIn (Fr No wr) => x.h.cell_some q5 (fun h => h)
                have Q6 := fun x : WIn (Fr No wr) => x.h.cell_some q6 (fun h => h)
                have Q7 := fun x : WIn (Fr No wr) => x.h.cell_some q7 (fun h => h)
                have Q8 := fun x : WIn (Fr No wr) => x.h.cell_some q8 (fun h => h)
                have Q9 := fun x : WIn (Fr No wr) => x.h.cell_some q9 (fun h => h)
                go_upto_region 13 with (fail)
                clear q0 q1 q2 q3 q4 q5 q6 q7 q8 q9 x0 x1 x2 x3 x4 x5 x6 x7 x8 x9
                cases fb
                rotate_left
                · cases r
                  all_goals
                    refine wp_region_in (D := Fr No wr) (by kernel_rfl) (by kernel_rfl) (Fr.refl _ _).drew ?_
                    repeat (go_big_quiet_step ((first | (go_at_call 42; refine Calls.in_of (v := .bool true) _ fun W hW => ?_; (with_reducible refine (HC.out W hW).mono ?_); exact fun _ _ h => ⟨h.1, Fr.trans hW h.2⟩) | (go_at_call 42; refine Calls.in_of (v := .bool false) _ fun W hW => ?_; (with_reducible refine (HC.out W hW).mono ?_); exact fun _ _ h => ⟨h.1, Fr.trans hW h.2⟩))))
                    refine wpQuiet_nil ?_
                    rintro wq ⟨⟨w0, hq⟩, hw0⟩
                    obtain rfl : wq = w0 := hw0
                    have HRL := Lib.hid (HNX.out wq hq)
                    go_wp2
                    go_roundw
                    case rel =>
                      obtain ⟨k', h1, h2, h3, h4⟩ := HRL.out
                      exact ⟨k', h1, by rw [← h2]; go_num, h3, h4⟩
                    case measure => have := HKI.out; simp [intOf]; omega
                · have HNX2 := Lib.hid fun n => HNX.out (wr.drewN n) ((Fr.refl _ _).drewN _)
                  go_quiet (fail)
                  go_wp2
                  go_roundw
                  case rel =>
                    obtain ⟨k', h1, h2, h3, h4⟩ := HNX2.out _
                    exact ⟨k', h1, by rw [← h2]; go_num, h3, h4⟩
                  case measure => have := HKI.out; simp [intOf]; omega
              · obtain rfl : k = i := by omega
                have HF3 := Lib.hid hf3
                generalize hAB : ((l'.take k).any fun x => clashB x l'[k]) = ab at *
                cases ab
                rotate_left
                · obtain ⟨cells, ho, hE⟩ := OwnO.noV HRV.out hf3
                  have HLEFT : Hid (∀ (w6 w7 : World) (v7 : Value), Fr No wr w6 → Own w7 47 10 v7 ((leftL clashB (l'.take k)).length + 1) (cells ++ l'[k].cs (.slice B l'[k].legs.length d)) → Fr (AtO (Value.slice Ar (leftL clashB (l'.take k)).length cr).ownBlock) w6 w7 → (v7.ownBlock = (Value.slice Ar (leftL clashB (l'.take k)).length cr).ownBlock ∨ v7.ownBlock = some w6.heap.size) → R2 w wo l' (.slice As st.length cs) v7 (.int .i64 ((k + 1 : Nat) : Int)) w7) := fun w6 w7 v7 a1 a2 a3 a4 => r2_left hlt (OwnO.noV HSV.out hf3) hE rfl HOR.out ⟨cells, ho, hE⟩ HSO.out HME.out hsl hll (HFI.out.trans hf3) HNS.out HNR.out HDI.out hAB a1 a2 a3 a4
                  have HOO := Lib.hid ho
                  have HBX : Hid ((leftL clashB (l'.take k)).length + 1 ≤ maxLen ∧ ((leftL clashB (l'.take k)).length + 1) * 120 ≤ 140737488355328) := by
                    refine ⟨?_, ?_⟩ <;> (try simp only [maxLen]) <;> omega
                  have hkil : (k : Int) < (l'.length : Int) := by omega
                  unfold Od.cs at HLEFT
                  clear ho hE hf3 hAB
                  generalize l'[k] = x at *
                  go_wp2_with (first | (at_builtin; refine wpList_app _ rfl (.tmp 42) (.tmp 47) 22 22 rfl elO (HOO.out.alloc _) rfl (Src.of_new (cs := #[.int .i64 x.cl, .int .i64 x.sq, .int .i64 x.kd, .string x.acct, .string x.peer, .int .i64 x.sum, .slice B x.legs.length d, .int .i64 x.per, .int .i64 x.hold, .string x.note]) (t := 47) wr.heap.size (heap_alloc_new _ _) Tryz.underlying22 rfl (by simp [Value.oneCell'])) rfl HBX.out.1 HBX.out.2 ?_; intro v7 w7 ho7 hf7 hn7; have HRL := Lib.hid (HLEFT.out _ _ _ ((Fr.refl No wr).alloc _) ho7 hf7 hn7); clear ho7 hf7 hn7) | fail)
                  go_roundw
                  case rel =>
                    obtain ⟨i', st', h1, h2, h3⟩ := HRL.out
                    exact ⟨i', st', h1, by rw [← h2]; go_num, h3⟩
                  case measure => simp [intOf]; omega
                · obtain ⟨cells, ho, hE⟩ := OwnO.noV HSV.out hf3
                  have HINS : Hid (∀ (m : Nat) (w8 : World) (v8 : Value), m ≤ st.length → (∀ j (hj : j < st.length), m ≤ j → ltI l'[k].id st[j].id) → (m = 0 ∨ ∃ h : m - 1 < st.length, ¬ ltI l'[k].id st[m - 1].id) → Own w8 47 10 v8 (m + 1 + (st.length - m)) (cells.take (m * 10) ++ l'[k].cs (.slice B l'[k].legs.length d) ++ cells.drop (m * 10)) → Fr No wr w8 → Newer wr.heap.size none v8.ownBlock → R2 w wo l' v8 (.slice Ar (leftL clashB (l'.take k)).length cr) (.int .i64 ((k + 1 : Nat) : Int)) w8) := fun m w8 v8 a1 a2 a3 a4 a5 a6 => r2_ins hlt ⟨cells, ho, hE⟩ hE rfl HOR.out a1 (OwnO.noV HRV.out hf3) HSO.out HME.out hsl hll (HFI.out.trans hf3) HNR.out HRT1.out a2 a3 hAB a4 a5 a6
                  have HOO := Lib.hid ho
                  have HEE := Lib.hid hE
                  have HCE : Hid (∀ W, Fr No wr W → _) := fun W hW => HCELL.out W (hf3.trans hW)
                  have hkil : (k : Int) < (l'.length : Int) := by omega
                  have hsl62 : (st.length : Int) ≤ 100000 := by omega
                  obtain ⟨w3, rfl⟩ : ∃ w3 : World, w3 = wr := ⟨_, rfl⟩
                  clear ho hE hf3 hAB x0 x1 x2 x3 x4 x5 x6 x7 x8 x9 HC0 HHI HCELL
                  generalize l'[k] = x at *
                  go_upto_block 6 with (fail)
                  go_cut [9] (fun av wx => R4E w3 st x av wx)
                  case first =>
                    go_wp2_with fail
                    go_loopw [9] (fun av wx => R4 w3 st x av wx) (fun av _ => (intOf av).toNat)
                    case atStart => exact ⟨st.length, Nat.le_refl _, rfl, fun i h h' => absurd h' (by omega), Fr.refl _ _⟩
                    case round =>
                      obtain ⟨m, hm, rfl, hall, hf4⟩ := hrel
                      have HALL := Lib.hid hall
                      have HF4 := Lib.hid hf4
                      clear hall
                      by_cases hm0 : 0 < m
                      · obtain ⟨m1, hm1⟩ : ∃ m1, m = m1 + 1 := ⟨m - 1, by omega⟩
                        have hml : m1 < st.length := by omega
                        obtain ⟨x0, x1, -⟩ := HCE.out _ hf4
                        obtain ⟨cells2, ho2, hE2⟩ : OwnO w wr (.slice As st.length cs) st := ⟨cells, HOO.out.fr hf4 (fun _ _ h => h), HEE.out⟩
                        obtain ⟨sd, v2, rfl, _, _, _, _, q0, q1, -⟩ := (OwnO.ods ⟨cells2, ho2, hE2⟩).at_ m1 hml
                        have hjj : (m : Int) - 1 = (m1 : Int) := by omega
                        have hgt : (0 : Int) < (m : Int) := by omega
                        have hd0 : decide ((0 : Int) < (m : Int)) = true := decide_eq_true hgt
                        have hwj : IntKind.i64.wrap ((m : Int) - 1) = (m1 : Int) := by rw [hjj]; exact IntWalk.i64_in _ (by omega)
                        have hmi : (m1 : Int) < (st.length : Int) := by omega
                        have HC := Lib.hid (fun W => HAH.out x.cl x.sq st[m1].cl st[m1].sq W)
                        have HLT : Hid (aheadI x.cl x.sq st[m1].cl st[m1].sq = true ↔ ltI x.id st[m1].id) := ltI_ahead _ _
                        have HM1 := Lib.hid hm1
                        have hne : Nonempty (WIn (Fr No wr)) := ⟨⟨_, Fr.refl _ _⟩⟩
                        have X0 := fun x : WIn (Fr No wr) => x.h.cell_some x0 (fun h => h)
                        have X1 := fun x : WIn (Fr No wr) => x.h.cell_some x1 (fun h => h)
                        have Q0 := fun x : WIn (Fr No wr) => x.h.cell_some q0 (fun h => h)
                        have Q1 := fun x : WIn (Fr No wr) => x.h.cell_some q1 (fun h => h)
                        generalize hah : aheadI x.cl x.sq st[m1].cl st[m1].sq = r at *
                        have HAHV := Lib.hid hah
                        clear hah hm1 ho2 hE2 hf4
                        go_upto_region 17 with (fail)
                        clear q0 q1 x0 x1
                        cases r
                        · refine wp_region_in (D := Fr No wr) (by kernel_rfl) (by kernel_rfl) (Fr.refl _ _).drew ?_
                          repeat (go_big_quiet_step ((first | (go_at_call 43; refine Calls.in_of (v := .bool false) _ fun W hW => ?_; (with_reducible refine (HC.out W).mono ?_); exact fun _ _ h => ⟨h.1, Fr.trans hW h.2⟩))))
                          refine wpQuiet_nil ?_
                          rintro wq ⟨⟨w0, hq⟩, hw0⟩
                          obtain rfl : wq = w0 := hw0
                          go_wp2
                          go_meet
                          exact ⟨m, hm, rfl, HALL.out, .inr ⟨by have := HM1.out; omega, by have := HM1.out; subst this; intro h9; exact absurd (HLT.out.2 h9) (by simp)⟩, HF4.out.trans hq⟩
                        · refine wp_region_in (D := Fr No wr) (by kernel_rfl) (by kernel_rfl) (Fr.refl _ _).drew ?_
                          repeat (go_big_quiet_step ((first | (go_at_call 43; refine Calls.in_of (v := .bool true) _ fun W hW => ?_; (with_reducible refine (HC.out W).mono ?_); exact fun _ _ h => ⟨h.1, Fr.trans hW h.2⟩))))
                          refine wpQuiet_nil ?_
                          rintro wq ⟨⟨w0, hq⟩, hw0⟩
                          obtain rfl : wq = w0 := hw0
                          have HNX : Hid (∀ j (h : j < st.length), m1 ≤ j → ltI x.id st[j].id) := fun j h hji => by
                            rcases Nat.eq_or_lt_of_le hji with e | e
                            · subst e; exact HLT.out.1 rfl
                            · exact HALL.out j h (by have := HM1.out; omega)
                          clear hwj
                          go_wp2
                          go_roundw
                          case rel => exact ⟨m1, by omega, by first | rfl | go_num, HNX.out, HF4.out.trans hq⟩
                          case measure => have := HM1.out; simp [intOf]; omega
                      · have hgt : ¬ (0 : Int) < (m : Int) := by omega
                        have hd0 : decide ((0 : Int) < (m : Int)) = false := decide_eq_false hgt
                        have hd1 : decide (0 < m) = false := decide_eq_false hm0
                        have HM0 : Hid (m = 0) := by show _ = _; omega
                        clear hm0 hf4
                        go_wp2_with fail
                        go_quiet (fail)
                        go_wp2
                        go_meet
                        exact ⟨m, hm, rfl, HALL.out, .inl HM0.out, HF4.out.drewN _⟩
                  case rest =>
                    obtain ⟨m, hm, rfl, hall, hno, hf4⟩ := hcut
                    obtain ⟨w5, rfl⟩ : ∃ w5 : World, w5 = wc := ⟨_, rfl⟩
                    have HF5 := Lib.hid hf4
                    have HO5 := Lib.hid (HOO.out.fr hf4 (fun _ _ h => h))
                    have HINS5 : Hid (∀ (w8 : World) (v8 : Value), Own w8 47 10 v8 (m + 1 + (st.length - m)) (cells.take (m * 10) ++ #[.int .i64 x.cl, .int .i64 x.sq, .int .i64 x.kd, .string x.acct, .string x.peer, .int .i64 x.sum, .slice B x.legs.length d, .int .i64 x.per, .int .i64 x.hold, .string x.note].toList ++ cells.drop (m * 10)) → Fr No w5 w8 → Newer w5.heap.size none v8.ownBlock → R2 w wo l' v8 (.slice Ar (leftL clashB (l'.take k)).length cr) (.int .i64 ((k + 1 : Nat) : Int)) w8) := fun w8 v8 a1 a2 a3 => HINS.out m w8 v8 hm hall hno a1 (hf4.trans a2) (Newer.trans (.inl rfl) a3 hf4.size)
                    have HCE5 : Hid (∀ W, Fr No w5 W → _) := fun W hW => HCE.out W (hf4.trans hW)
                    have hrd := HO5.out.rd
                    have hrdT : Rd w5 (fun k' => (Value.slice As st.length cs).ownBlock = some k') 10 As m (cells.take (m * 10)) := hrd.take hm
                    obtain ⟨X, hX⟩ : ∃ X, X = if cs = m then As else As.map (·.add (m * 10)) := ⟨_, rfl⟩
                    have hrdD : Rd w5 (fun k' => (Value.slice As st.length cs).ownBlock = some k') 10 X (st.length - m) (cells.drop (m * 10)) := by
                      have := hrd.cut (cap := cs) hm hsc
                      rw [hX]
                      exact this
                    have hone : ∀ y ∈ cells, y.oneCell' = true := each_all (P := fun y => y.oneCell' = true) (by omega) HEE.out odr_one
                    have HST : Hid (∀ W c', Fr No w5 W → Src Tryz.prog W 10 22 (.slice As m c') m (cells.take (m * 10))) := fun W c' hW => Src.of_rd (hrdT.fr (by omega) hW fun _ _ _ h => h) (fun y hy => hone y (List.mem_of_mem_take hy)) Tryz.underlying22
                    have HSD : Hid (∀ W c', Fr No w5 W → Src Tryz.prog W 10 22 (.slice X (st.length - m) c') (st.length - m) (cells.drop (m * 10))) := fun W c' hW => Src.of_rd (hrdD.fr (by omega) hW fun _ _ _ h => h) (fun y hy => hone y (List.mem_of_mem_drop hy)) Tryz.underlying22
                    have hmc : m ≤ cs := by omega
                    have HMX : Hid (0 + m ≤ maxLen ∧ (0 + m) * 120 ≤ 140737488355328 ∧ m + 1 ≤ maxLen ∧ (m + 1) * 120 ≤ 140737488355328 ∧ m + 1 + (st.length - m) ≤ maxLen ∧ (m + 1 + (st.length - m)) * 120 ≤ 140737488355328) := by
                      refine ⟨?_, ?_, ?_, ?_, ?_, ?_⟩ <;> (try simp only [maxLen]) <;> omega
                    obtain ⟨x0, x1, x2, x3, x4, x5, x6, x7, x8, x9⟩ := HCE5.out _ (Fr.refl No w5)
                    unfold maxLen at hsc2
                    clear hall hno hrd hrdT hrdD hone hf4
                    have hdd : Fr No w5 w5.drew := (Fr.refl _ _).drew
                    have HKP : Hid (∀ W, Fr No w5 W → (Fr No w5 W ∧ W.cell? (ad.add (k * 10)) = some (.int .i64 x.cl) ∧ W.cell? ⟨(ad.add (k * 10)).block, (ad.add (k * 10)).off + 1, none⟩ = some (.int .i64 x.sq) ∧ W.cell? ⟨(ad.add (k * 10)).block, (ad.add (k * 10)).off + 2, none⟩ = some (.int .i64 x.kd) ∧ W.cell? ⟨(ad.add (k * 10)).block, (ad.add (k * 10)).off + 3, none⟩ = some (.string x.acct) ∧ W.cell? ⟨(ad.add (k * 10)).block, (ad.add (k * 10)).off + 4, none⟩ = some (.string x.peer) ∧ W.cell? ⟨(ad.add (k * 10)).block, (ad.add (k * 10)).off + 5, none⟩ = some (.int .i64 x.sum) ∧ W.cell? ⟨(ad.add (k * 10)).block, (ad.add (k * 10)).off + 6, none⟩ = some (.slice B x.legs.length d) ∧ W.cell? ⟨(ad.add (k * 10)).block, (ad.add (k * 10)).off + 7, none⟩ = some (.int .i64 x.per) ∧ W.cell? ⟨(ad.add (k * 10)).block, (ad.add (k * 10)).off + 8, none⟩ = some (.int .i64 x.hold) ∧ W.cell? ⟨(ad.add (k * 10)).block, (ad.add (k * 10)).off + 9, none⟩ = some (.string x.note))) := fun W hW => ⟨hW, HCE5.out W hW⟩
                    go_upto_region 19 with (fail)
                    by_cases hck : cs = m
                    focus
                      subst hck
                      rw [if_pos rfl] at hX
                      have hz0 : st.length - cs = 0 := by omega
                      rw [hz0] at HSD HMX HINS5
                      clear hz0
                    rotate_left
                    focus rw [if_neg hck] at hX
                    all_goals
                      subst hX
                      go_region_held_law (fun W => Fr No w5 W ∧ W.cell? (ad.add (k * 10)) = some (.int .i64 x.cl) ∧ W.cell? ⟨(ad.add (k * 10)).block, (ad.add (k * 10)).off + 1, none⟩ = some (.int .i64 x.sq) ∧ W.cell? ⟨(ad.add (k * 10)).block, (ad.add (k * 10)).off + 2, none⟩ = some (.int .i64 x.kd) ∧ W.cell? ⟨(ad.add (k * 10)).block, (ad.add (k * 10)).off + 3, none⟩ = some (.string x.acct) ∧ W.cell? ⟨(ad.add (k * 10)).block, (ad.add (k * 10)).off + 4, none⟩ = some (.string x.peer) ∧ W.cell? ⟨(ad.add (k * 10)).block, (ad.add (k * 10)).off + 5, none⟩ = some (.int .i64 x.sum) ∧ W.cell? ⟨(ad.add (k * 10)).block, (ad.add (k * 10)).off + 6, none⟩ = some (.slice B x.legs.length d) ∧ W.cell? ⟨(ad.add (k * 10)).block, (ad.add (k * 10)).off + 7, none⟩ = some (.int .i64 x.per) ∧ W.cell? ⟨(ad.add (k * 10)).block, (ad.add (k * 10)).off + 8, none⟩ = some (.int .i64 x.hold) ∧ W.cell? ⟨(ad.add (k * 10)).block, (ad.add (k * 10)).off + 9, none⟩ = some (.string x.note))
                        (exact HKP.out _ (by first | assumption | exact Fr.alloc (by assumption) _ | exact ((Fr.refl _ _).alloc _).drew)) (first
                        | (refine step_app _ rfl (.const (.slice none 0 0)) (.tmp 71) 22 22 rfl elO (Own.nil _ _ _) rfl (HST.out _ _ (by first | assumption | exact Fr.alloc (by assumption) _ | exact ((Fr.refl _ _).alloc _).drew)) rfl HMX.out.1 HMX.out.2.1 ?_; intro v6 w6 ho6 hf6 hn6; rw [Nat.zero_add, List.nil_append] at ho6
                           have hq6 : Fr No w5 w6 := Fr.trans (by first | assumption | exact Fr.alloc (by assumption) _ | exact ((Fr.refl _ _).alloc _).drew) (fr_at_none hf6)
                           have hB6 := hf6.block w5.heap.size
                           have hw6 : Newer w5.heap.size none v6.ownBlock := Newer.trans (.inl rfl) (Newer.of hn6) (by first | exact Nat.le_refl _ | (show w5.heap.size ≤ (w5.alloc _).heap.size; rw [World.size_alloc]; exact Nat.le_succ _)))
                        | (refine step_app _ rfl (.tmp 72) (.tmp 77) 22 22 rfl elO ho6 rfl (Src.of_new (cs := #[.int .i64 x.cl, .int .i64 x.sq, .int .i64 x.kd, .string x.acct, .string x.peer, .int .i64 x.sum, .slice B x.legs.length d, .int .i64 x.per, .int .i64 x.hold, .string x.note]) (t := 47) w5.heap.size (by rw [hB6 (by show _ < (w5.alloc _).heap.size; rw [World.size_alloc]; exact Nat.lt_succ_self _) (fun h => by cases h)]; exact heap_alloc_new w5 _) Tryz.underlying22 rfl (by simp [Value.oneCell'])) rfl HMX.out.2.2.1 HMX.out.2.2.2.1 ?_; intro v7 w7 ho7 hf7 hn7
                           have hq7 : Fr No w5 w7 := fr_no hq6 hw6 hf7
                           have hw7 : Newer w5.heap.size none v7.ownBlock := Newer.trans hw6 (Newer.of hn7) hq6.size)
                        | (refine step_app _ rfl (.tmp 72) (.tmp 77) 22 22 rfl elO (ho6.alloc _) rfl (Src.of_new (cs := #[.int .i64 x.cl, .int .i64 x.sq, .int .i64 x.kd, .string x.acct, .string x.peer, .int .i64 x.sum, .slice B x.legs.length d, .int .i64 x.per, .int .i64 x.hold, .string x.note]) (t := 47) w6.heap.size (heap_alloc_new _ _) Tryz.underlying22 rfl (by simp [Value.oneCell'])) rfl HMX.out.2.2.1 HMX.out.2.2.2.1 ?_; intro v7 w7 ho7 hf7 hn7
                           have hq7 : Fr No w5 w7 := fr_no (hq6.alloc _) hw6 hf7
                           have hw7 : Newer w5.heap.size none v7.ownBlock := Newer.trans hw6 (Newer.of hn7) (Nat.le_trans hq6.size (by simp)))
                        | (refine step_app _ rfl (.tmp 78) (.tmp 81) 22 22 rfl elO ho7 rfl (HSD.out _ _ hq7) rfl HMX.out.2.2.2.2.1 HMX.out.2.2.2.2.2 ?_; intro v8 w8 ho8 hf8 hn8
                           have hq8 : Fr No w5 w8 := fr_no hq7 hw7 hf8
                           have HN8 := Lib.hid (HINS5.out w8 v8 ho8 hq8 (hw7.trans (Newer.of hn8) hq7.size))))
                      all_goals
                        have HN9 := Lib.hid HN8.out
                        clear ho6 ho7 ho8 hf6 hf7 hf8 hn6 hn7 hn8 hq6 hq7 hw6 hw7 hB6 HN8 hq8
                        go_wp2
                        go_roundw
                        case rel =>
                          obtain ⟨i', st', h1, h2, h3⟩ := HN9.out
                          exact ⟨i', st', h1, by rw [← h2]; go_num, h3⟩
                        case measure => simp [intOf]; omega
          · obtain rfl : i = l'.length := by omega
            rw [List.take_length] at hrv hmem hrc hll hnr
            have HNX : Hid (∀ (w1 w2 : World) (ov' : Value), Fr No wr w1 → Fr (AtO (Value.slice Ao D.length co).ownBlock) w1 w2 → Own w2 22 1 ov' (D.length + 1) (vs ++ [.slice As st.length cs]) → (ov'.ownBlock = (Value.slice Ao D.length co).ownBlock ∨ ov'.ownBlock = some w1.heap.size) → R0 w l (.slice Ar (leftL clashB l').length cr) ov' w2) := fun w1 w2 ov' a1 a2 a3 a4 => HNEXT.out w1 w2 wr st _ _ ov' hsv hrv hsort hmem hfi hnr a1 a2 a3 a4
            have HOW := Lib.hid (HRO.out.fr hfi (fun _ _ h => h))
            have HBX : Hid (D.length + 1 ≤ maxLen ∧ (D.length + 1) * 24 ≤ 140737488355328) := by
              have := HDL.out
              refine ⟨?_, ?_⟩ <;> (try simp only [maxLen]) <;> omega
            have HLT : Hid ((leftL clashB l').length < l'.length) := leftL_len hz
            clear hsv hrv hsort hmem hfi hns hnr hdis
            rw [List.take_length]
            go_wp2_with (first | (at_builtin; refine wpList_app _ rfl (.tmp 83) (.tmp 85) 29 29 rfl elRow (HOW.out.alloc _) rfl (Src.of_new (cs := #[.slice As st.length cs]) (t := 22) wr.heap.size (heap_alloc_new _ _) Tryz.underlying29 rfl (by simp [Value.oneCell'])) rfl HBX.out.1 HBX.out.2 ?_; intro v7 w7 ho7 hf7 hn7; have HRL := Lib.hid (HNX.out _ _ _ ((Fr.refl No wr).alloc _) hf7 ho7 hn7); clear ho7 hf7 hn7) | fail)
            go_roundw
            case rel => exact HRL.out
            case measure => exact HLT.out
end Go.Proofs.YtnphncemghfkbaaGreat
