/- BookAsks' walk. -/
import Derived.Test.YtgklifbfbjdobaaGreatMB2
namespace Go.Proofs.YtgklifbfbjdobaaGreat
open Go.RowKit Go.My Go.Maps
set_option linter.unusedSimpArgs false
set_option linter.unusedVariables false
attribute [local go_sem ↓] Go.wp_at_zero Go.wp_at_succ

/-- Do of an order of a client's -/
theorem doask_any (q : Pl) (b : Bk) (s k : Int) (a : ByteArray) (x : Int) (R : Rp) (B : Bk) (W : World) (h : BkS W q b) (ho : (askOd s k a x).ok) (hR : doR b (askOd s k a x) = R) (hB : doB b (askOd s k a x) = B) :
    Calls Tryz.prog 12 #[.pointer (some ⟨q.p, 0, none⟩), .agg #[.int .i64 0, .int .i64 s, .int .i64 k, .string a, .string ⟨#[]⟩, .int .i64 x, .slice none 0 0, .int .i64 0, .int .i64 0, .string ⟨#[]⟩]] W fun e w' => e = .returned (.agg #[.int .i64 R.err, .int .i64 R.hv, .int .i64 R.st, .int .i64 R.num]) ∧ BkS w' q B ∧ Fr q.wr W w' := by
  have h1 := do_any (fun _ => False) q b (askOd s k a x) (.slice none 0 0) W h ho (LgS_nil _ _) (fun _ h => False.elim h)
  rw [hR, hB] at h1
  exact h1
def AkRel (w1 : World) (S : List Ac) (a : List UInt8) (iv : Value) (wr : World) : Prop := ∃ k : Nat, k ≤ S.length ∧ iv = .int .i64 k ∧ (∀ i (h : i < S.length), i < k → S[i].name ≠ a) ∧ wr = w1
set_option maxRecDepth 100000 in
set_option maxHeartbeats 4000000 in
theorem bookAsks_walk (A : Option Addr) (c : Nat) (l : List Od) (acct : ByteArray) (w : World) (hl : OdsS w w (Lt w.heap.size) A l) (hlc : l.length ≤ c) (hcm : c ≤ maxLen) (hac : acct.size ≤ maxLen) :
    Calls Tryz.prog 6 #[.slice A l.length c, .string acct] w (RetTrue w) := by
  have HL := Lib.hid hl
  have HFEW : Hid (∀ W, Below w.heap.size w W → Calls Tryz.prog 10 #[.slice A l.length c, .int .i64 60] W (FewRet w W (fewO l 60))) := fun W hW =>
    few9_any w W _ A c l 60 (hl.below hW (fun _ h => h)) hlc hcm (by omega)
  have HA := Lib.hid (fun s k x W => ask9_any s k acct x W)
  have hbk := fold_inv bki0 (fewO l 60) (fun o ho => by
    unfold fewO at ho
    obtain ⟨o', h1, rfl⟩ := List.mem_map.1 ho
    exact hl.ok o' (List.mem_of_mem_take h1))
  have HAS := Lib.hid (ask_case (nmB0.fold (fewO l 60)) hbk.st.kp.inv.rise acct)
  have HO1 := Lib.hid (askOd_ok 1 7 acct 0 (by unfold In64; omega) (by unfold In64; omega) hac (by unfold In64; omega))
  have HO2 := Lib.hid (askOd_ok 2 7 acct 0 (by unfold In64; omega) (by unfold In64; omega) hac (by unfold In64; omega))
  have HB1 := Lib.hid (ask_do (b := foldB bk0 (fewO l 60)) (s := 1) (by omega) acct).2
  have HB2 := Lib.hid (ask_do (b := foldB bk0 (fewO l 60)) (s := 2) (by omega) acct).2
  have HLN : Hid ((fewO l 60).length ≤ 1000) := by show _ ≤ _; rw [fewO_length]; omega
  clear hl hlc hcm hac hbk
  go_enter Tryz.func6, Tryz.ntmps6
  go_wp2_with fail
  (with_reducible refine (lives9 _).mono ?_)
  rintro e w1 ⟨rfl, hb1⟩
  go_wp2_with fail
  (with_reducible refine (HFEW.out _ hb1).mono ?_)
  rintro e w2 ⟨A2, c2, rfl, ho2, hl2, hc2, hf2⟩
  have HW2 : Hid (Below w.heap.size w w2) := below_fr_no hb1 hf2 hb1.size
  have HO := Lib.hid ho2
  clear ho2 hf2 hb1 HFEW
  go_wp2_with fail
  (with_reducible refine (fold_any w w2 _ A2 c2 _ HO.out HW2.out HLN.out).mono ?_)
  rintro e w3 ⟨A3, c3, q, rfl, -, hb3, hf3, hq3, -, -⟩
  have HW3 : Hid (Below w.heap.size w w3) := below_fr_no HW2.out hf3 HW2.out.size
  have HQ : Hid (∀ i, Pl.all q i → w.heap.size ≤ i) := fun i hi => by have := hq3 i hi; have := HW2.out.size; omega
  have HB3 := Lib.hid hb3
  clear hb3 hf3 hq3 HO HLN HL
  obtain ⟨R, hR, hcase⟩ := HAS.out
  have HR1 := Lib.hid (hR 1 (by omega))
  have HR2 := Lib.hid (hR 2 (by omega))
  obtain ⟨re, rh, rs, rn⟩ := R
  have HCASE := Lib.hid hcase
  clear HAS hR hcase
  generalize foldB bk0 (fewO l 60) = b at *
  go_wp2_with fail
  (with_reducible refine (HA.out _ _ _ _).mono ?_)
  rintro e w4 ⟨rfl, hf4⟩
  have HB4 := Lib.hid (HB3.out.no hf4)
  have HW4 : Hid (Below w.heap.size w w4) := below_fr_no HW3.out hf4 HW3.out.size
  clear hf4
  go_wp2_with fail
  (with_reducible refine (doask_any q b 1 7 acct 0 ⟨re, rh, rs, rn⟩ b w4 HB4.out HO1.out HR1.out HB1.out).mono ?_)
  rintro e w5 ⟨rfl, hb5, hf5⟩
  have HW5 : Hid (Below w.heap.size w w5) := below_fr HW4.out hf5 HW4.out.size (fun k hk => by have := HQ.out k (Pl.wr_all hk); omega)
  have HB5 := Lib.hid hb5
  clear hb5 hf5
  go_wp2_with fail
  (with_reducible refine (HA.out _ _ _ _).mono ?_)
  rintro e w6 ⟨rfl, hf6⟩
  have hx5 := Blk.new w5 29 #[.int .i64 re, .int .i64 rh, .int .i64 rs, .int .i64 rn]
  have HX6 := Lib.hid (hx5.fr hf6 (fun h => h))
  have hf56 : Fr No w5 w6 := ((Fr.refl _ w5).alloc _).trans hf6
  have HB6 := Lib.hid (HB5.out.no hf56)
  have HW6 : Hid (Below w.heap.size w w6) := below_fr_no HW5.out hf56 HW5.out.size
  have HFAR : Hid (∀ i, Pl.all q i → i ≠ w5.heap.size) := fun i hi => by have := HB5.out.lt i hi; omega
  clear hx5 hf6 hf56
  go_wp2_with fail
  (with_reducible refine (doask_any q b 2 7 acct 0 ⟨re, rh, rs, rn⟩ b w6 HB6.out HO2.out HR2.out HB2.out).mono ?_)
  rintro e w7 ⟨rfl, hb7, hf7⟩
  have HX7 := Lib.hid (HX6.out.fr hf7 (fun h => HFAR.out _ (Pl.wr_all h) rfl))
  have HW7 : Hid (Below w.heap.size w w7) := below_fr HW6.out hf7 HW6.out.size (fun k hk => by have := HQ.out k (Pl.wr_all hk); omega)
  have HB7 := Lib.hid hb7
  clear hb7 hf7
  go_wp2_with fail
  (with_reducible refine (baccts_any q b _ (HB7.out.no ((Fr.refl _ _).alloc _))).mono ?_)
  rintro e w8 ⟨v8, rfl, ho8, hf8, -⟩
  obtain ⟨A8, c8, rfl, hl8, hc8⟩ := ho8.form
  have hf8' : Fr No w7 w8 := ((Fr.refl _ w7).alloc _).trans (fr_at_none hf8)
  have hx8 := HX7.out.fr hf8' (fun h => h)
  have hy8 := (Blk.new w7 29 #[.int .i64 re, .int .i64 rh, .int .i64 rs, .int .i64 rn]).fr (fr_at_none hf8) (fun h => h)
  have HW8 : Hid (Below w.heap.size w w8) := below_fr_no HW7.out hf8' HW7.out.size
  have x0 := hx8.cell 0
  have x1 := hx8.cell 1
  have x2 := hx8.cell 2
  have x3 := hx8.cell 3
  have y0 := hy8.cell 0
  have y1 := hy8.cell 1
  have y2 := hy8.cell 2
  have y3 := hy8.cell 3
  simp only [List.getElem?_toArray, List.getElem?_cons_zero, List.getElem?_cons_succ] at x0 x1 x2 x3 y0 y1 y2 y3
  have HRD := Lib.hid ho8.rd
  have hSl : b.S.length ≤ 12 := HB7.out.inv.st.kp.inv.len
  clear hx8 hy8 hf8 hf8' ho8
  generalize b.S = S at *
  go_wp2
  go_loopw [10] (fun iv wr => AkRel w8 S acct.data.toList iv wr) (fun iv _ => S.length - (intOf iv).toNat)
  case atStart => exact ⟨0, Nat.zero_le _, rfl, fun i _ h => absurd h (by omega), rfl⟩
  case round =>
    obtain ⟨k, hk, rfl, hno, rfl⟩ := hrel
    have HNO := Lib.hid hno
    clear hno
    by_cases hlt : k < S.length
    · obtain ⟨ad, rfl, _, p0, p1, p2, p3⟩ := acs_at HRD.out k hlt
      by_cases hnm : S[k].name = acct.data.toList
      · obtain ⟨e1, e2, e3, e4⟩ : re = 0 ∧ rh = S[k].hv ∧ rs = S[k].st ∧ rn = 0 := by
          rcases HCASE.out with ⟨c, hc, hcn, hR, hu⟩ | ⟨hn, _⟩
          · have := hu S[k] (List.getElem_mem hlt) hnm
            rw [← this] at hR
            simp only [Rp.mk.injEq] at hR
            exact hR
          · exact absurd hnm (hn S[k] (List.getElem_mem hlt))
        rw [hnm] at p0
        subst e1 e4
        rw [← e2] at p1
        rw [← e3] at p2
        clear e2 e3 hnm
        generalize S[k].lim = lim at *
        obtain ⟨⟨la⟩⟩ := acct
        go_wp2
        go_quiet (fail)
        go_wp2
        go_ret
        exact ⟨rfl, below_drewN HW8.out _⟩
      · have HN := Lib.hid hnm
        obtain ⟨⟨la⟩⟩ := acct
        have hnm' : ¬ S[k].name = la := hnm
        have z1 : (S[k].name == la) = false := beq_eq_false_iff_ne.2 hnm'
        have z2 : ((⟨S[k].name.toArray⟩ : ByteArray).toList == (⟨⟨la⟩⟩ : ByteArray).toList) = false := by rw [ByteArray.toList_eq, ByteArray.toList_eq]; exact z1
        clear hnm hnm'
        generalize S[k].hv = vh at *
        generalize S[k].st = vs at *
        generalize S[k].lim = lim at *
        go_wp2
        go_roundw
        case rel => exact ⟨k + 1, by omega, by go_num, fun i hi hik => (by
          rcases Nat.lt_succ_iff_lt_or_eq.1 hik with h | h
          · exact HNO.out i hi h
          · subst h; exact HN.out), rfl⟩
        case measure => simp [intOf]; omega
    · have hkl : k = S.length := by omega
      subst hkl
      have hend : rh = 0 ∧ rs = 0 ∧ (re = 6 ∨ re = 1) := by
        rcases HCASE.out with ⟨c, hc, hcn, hR, hu⟩ | ⟨_, h | h⟩
        · obtain ⟨i, hi, rfl⟩ := List.getElem_of_mem hc
          exact absurd hcn (HNO.out i hi hi)
        · simp only [Rp.mk.injEq] at h
          exact ⟨h.2.1, h.2.2.1, .inl h.1⟩
        · simp only [Rp.mk.injEq] at h
          exact ⟨h.2.1, h.2.2.1, .inr h.1⟩
      obtain ⟨rfl, rfl, rfl | rfl⟩ := hend
      all_goals
        go_wp2
        go_ret
        exact ⟨rfl, HW8.out⟩
end Go.Proofs.YtgklifbfbjdobaaGreat
