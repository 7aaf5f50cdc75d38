/- The document's own holds: Put. -/
import Derived.Test.YtjbeaoabhhaiiaaGreatHoldR2
import Derived.Test.YtjbeaoabhhaiiaaGreatChartJ5
namespace Go.Proofs.YtjbeaoabhhaiiaaGreat
open Go.RowKit Go.My Go.Maps
set_option linter.unusedSimpArgs false
set_option linter.unusedVariables false
attribute [local go_sem ↓] Go.wp_at_zero Go.wp_at_succ

theorem asd_ne {S : List Ac} {nm : List UInt8} {x : Int} (h : asdE S nm x ≠ 0) : asdS S nm x = S := by
  unfold asdE actE at h
  unfold asdS actS
  cases hg : getA S nm with
  | none => rfl
  | some a =>
    rw [hg] at h
    simp only at h ⊢
    rw [if_neg h]
def PuRel (H : List Hd) (X : Hd) (w : World) (kv : Value) (wr : World) : Prop :=
  ∃ k : Nat, k ≤ H.length ∧ kv = .int .i64 k ∧ (∀ i (h : i < H.length), k ≤ i → hB X H[i] = true) ∧ Fr No w wr
def PuEnd (H : List Hd) (X : Hd) (w : World) (kv : Value) (wr : World) : Prop :=
  ∃ k : Nat, k ≤ H.length ∧ kv = .int .i64 k ∧ (∀ i (h : i < H.length), k ≤ i → hB X H[i] = true) ∧ (∀ (_ : 0 < k) (h2 : k - 1 < H.length), hB X H[k - 1] = false) ∧ Fr No w wr
set_option maxRecDepth 100000 in
set_option maxHeartbeats 8000000 in
theorem rput_any (q r : Nat) (S : List Ac) (H : List Hd) (s : ByteArray) (n x : Int) (w : World) (hc : RfS w q S) (hI : Inv S) (hh : RfH w r H) (hr : RiseH H) (hP : PosH H) (hH : H.length < 1000) (hs : s.size ≤ maxLen) (hx : In64 x) :
    Calls Tryz.prog 55 #[.pointer (some ⟨r, 0, none⟩), .pointer (some ⟨q, 0, none⟩), .agg #[.int .i64 n, .string s, .int .i64 x]] w (RRet q r (putE S H n s.data.toList x) (putSS S H n s.data.toList x) (putHH S H n s.data.toList x) w) := by
  have HERR : Hid (∀ W k, RfS W q S → RfH W r H → Fr (At2 q r) w W → putE S H n s.data.toList x = k → k ≠ 0 → RRet q r (putE S H n s.data.toList x) (putSS S H n s.data.toList x) (putHH S H n s.data.toList x) w (.returned (.int .i64 k)) W) := fun W k h1 h2 h3 h4 h5 => by
    rw [← h4] at h5 ⊢
    refine ⟨rfl, ?_, ?_, h3⟩
    · unfold putSS; rw [if_neg h5]; exact h1
    · unfold putHH; rw [if_neg h5]; exact h2
  have HNO : Hid (∀ W, Fr No w W → RfS W q S ∧ RfH W r H ∧ Fr (At2 q r) w W) := fun W hW => ⟨hc.no hW, hh.no hW, hW.mono fun _ _ h => False.elim h⟩
  have HERR1 : Hid (∀ W k, Fr No w W → putE S H n s.data.toList x = k → k ≠ 0 → RRet q r (putE S H n s.data.toList x) (putSS S H n s.data.toList x) (putHH S H n s.data.toList x) w (.returned (.int .i64 k)) W) := fun W k hW h4 h5 => HERR.out W k (HNO.out W hW).1 (HNO.out W hW).2.1 (HNO.out W hW).2.2 h4 h5
  by_cases h1 : n < 1
  · have HE : Hid (putE S H n s.data.toList x = 1) := by show _ = _; unfold putE; rw [if_pos (.inl h1)]
    clear hc hh hI hs hx
    go_enter Tryz.func55, Tryz.ntmps55
    go_wp2
    go_ret
    exact HERR1.out _ 1 ((Fr.refl _ _).alloc _) HE.out (by decide)
  by_cases h2 : 9999 < n
  · have HE : Hid (putE S H n s.data.toList x = 1) := by show _ = _; unfold putE; rw [if_pos (.inr (.inl h2))]
    clear hc hh hI hs hx
    go_enter Tryz.func55, Tryz.ntmps55
    go_wp2
    go_ret
    exact HERR1.out _ 1 ((Fr.refl _ _).alloc _) HE.out (by decide)
  by_cases h3 : x < 1
  · have HE : Hid (putE S H n s.data.toList x = 1) := by show _ = _; unfold putE; rw [if_pos (.inr (.inr (by omega)))]
    clear hc hh hI hs hx
    go_enter Tryz.func55, Tryz.ntmps55
    go_wp2
    go_ret
    exact HERR1.out _ 1 ((Fr.refl _ _).alloc _) HE.out (by decide)
  have HE0 : Hid (putE S H n s.data.toList x = if (getH H s.data.toList n).isSome then 7 else if 8 ≤ (ofH H s.data.toList).length then 5 else asdE S s.data.toList x) := by
    show _ = _
    unfold putE
    rw [if_neg (by omega)]
  obtain ⟨lo, hlo, hlo2⟩ : ∃ lo : List UInt8, s = ⟨lo.toArray⟩ ∧ s.data.toList = lo := ⟨s.data.toList, by simp, rfl⟩
  subst hlo
  have HSZ := Lib.hid hs
  have HAT : Hid (∀ W, Fr No w W → Calls Tryz.prog 80 #[.pointer (some ⟨r, 0, none⟩), .string ⟨lo.toArray⟩, .int .i64 n] W (AtRetH H lo n W)) := fun W hW => by
    have := rat_any r H ⟨lo.toArray⟩ n W (hh.no hW) hH
    rwa [hlo2] at this
  have HOF : Hid (∀ W, Fr No w W → Calls Tryz.prog 81 #[.pointer (some ⟨r, 0, none⟩), .string ⟨lo.toArray⟩] W (RetOwn W 129 3 none (ofH H lo).length (hds (ofH H lo)))) := fun W hW => by
    have := rof_any r H ⟨lo.toArray⟩ W (hh.no hW) hH
    rwa [hlo2] at this
  have HAS : Hid (∀ W, Fr No w W → Calls Tryz.prog 82 #[.pointer (some ⟨q, 0, none⟩), .string ⟨lo.toArray⟩, .int .i64 x] W (DeedsR q (asdE S lo x) (asdS S lo x) W)) := fun W hW => by
    have := refaside_any q S ⟨lo.toArray⟩ x W (hc.no hW) hI hx
    rwa [hlo2] at this
  rw [hlo2] at HE0 HERR HERR1
  rw [hlo2]
  have HQ : Hid (∀ W, Fr No w W → ∃ cs, Blk W q 122 cs) := fun W hW => (hc.no hW).blk
  have hqs : q < w.heap.size := by obtain ⟨cs, hb⟩ := hc.blk; exact hb.lt
  have hrs : r < w.heap.size := hh.lt
  have HFA : Hid (Fr No w (w.alloc (.cells #[.int .i64 n, .string ⟨lo.toArray⟩, .int .i64 x] 129))) := (Fr.refl _ _).alloc _
  have hba := Blk.new w 129 #[.int .i64 n, .string ⟨lo.toArray⟩, .int .i64 x]
  have HBA := Lib.hid hba
  have HBC : Hid (∀ W b, Blk W b 129 #[.int .i64 n, .string ⟨lo.toArray⟩, .int .i64 x] → W.cell? ⟨b, 0, none⟩ = some (.int .i64 n) ∧ W.cell? ⟨b, 1, none⟩ = some (.string ⟨lo.toArray⟩) ∧ W.cell? ⟨b, 2, none⟩ = some (.int .i64 x)) := fun W b h => ⟨h.cell 0, h.cell 1, h.cell 2⟩
  obtain ⟨d0, d1, d2⟩ := HBC.out _ _ hba
  have HR := Lib.hid hr
  have HP := Lib.hid (fun y (hy : y ∈ H) => (hP y hy).2.2.2.2)
  clear hba hc hh hI hs hx hr hP hlo2
  go_enter Tryz.func55, Tryz.ntmps55
  go_wp2_with fail
  generalize hwB : w.alloc (.cells #[.int .i64 n, .string ⟨lo.toArray⟩, .int .i64 x] 129) = wB at *
  have hsB : w.heap.size < wB.heap.size := by rw [← hwB, World.size_alloc]; exact Nat.lt_succ_self _
  clear hwB
  refine (HAT.out _ HFA.out).mono ?_
  rintro e w1 ⟨z, rfl, hz, rfl⟩
  rcases hz with ⟨hg, rfl⟩ | ⟨k, hk, rfl, e1, e2, hg⟩
  · have HG := Lib.hid hg
    rw [hg] at HE0
    simp only [Option.isSome_none, Bool.false_eq_true, if_false] at HE0
    clear hg
    go_wp2_with fail
    refine (HOF.out _ HFA.out).mono ?_
    rintro e w2 ⟨v, rfl, hov, hfv, hnv⟩
    have hf2 : Fr No w w2 := HFA.out.trans (fr_at_none hfv)
    obtain ⟨A2, c2, rfl, _, _⟩ := hov.form
    have HF2 := Lib.hid hf2
    have HB2 := Lib.hid (HBA.out.fr (fr_at_none hfv) (fun h => h))
    obtain ⟨d0, d1, d2⟩ := HBC.out _ _ HB2.out
    have hs2 : wB.heap.size ≤ w2.heap.size := hfv.size
    clear hov hfv hnv hf2 HBA
    by_cases h8 : 8 ≤ (ofH H lo).length
    · have HE : Hid (putE S H n lo x = 5) := by show _ = _; rw [HE0.out, if_pos h8]
      have h8i : (8 : Int) ≤ ((ofH H lo).length : Int) := by omega
      generalize (ofH H lo).length = l8 at *
      go_wp2
      go_ret
      exact HERR1.out _ 5 HF2.out HE.out (by decide)
    · have HE : Hid (putE S H n lo x = asdE S lo x) := by show _ = _; rw [HE0.out, if_neg h8]
      have h8i : ¬ (8 : Int) ≤ ((ofH H lo).length : Int) := by omega
      generalize (ofH H lo).length = l8 at *
      go_wp2_with fail
      refine (HAS.out _ HF2.out).mono ?_
      rintro e w3 ⟨rfl, hc3, hf3⟩
      obtain ⟨cq, hbq⟩ := HQ.out _ HF2.out
      have HC3 := Lib.hid hc3
      have HH3 := Lib.hid ((HNO.out _ HF2.out).2.1.chart hbq hf3)
      have HB3 := Lib.hid (HB2.out.fr hf3 (fun h => absurd h (by show ¬ w.heap.size = q; omega)))
      have HF3 : Hid (Fr (At2 q r) w w3) := (HF2.out.mono fun _ _ h => False.elim h).trans (hf3.mono fun _ _ h => .inl h)
      have hs3 : w2.heap.size ≤ w3.heap.size := hf3.size
      obtain ⟨d0, d1, d2⟩ := HBC.out _ _ HB3.out
      clear hc3 hf3 hbq HB2
      by_cases h0 : asdE S lo x = 0
      · have HZ : Hid (putE S H n lo x = 0) := by show _ = _; rw [HE.out, h0]
        rw [h0]
        clear h0 HE HE0
        obtain ⟨A, c, hb, hLc, hcm, ho⟩ := HH3.out
        have HB := Lib.hid hb
        have HO := Lib.hid ho
        have c0 := hb.cell 0
        simp only [List.getElem?_toArray, List.getElem?_cons_zero] at c0
        unfold maxLen at hcm
        clear hb ho
        go_upto_block 0 with (fail)
        go_cut [8] (fun a8 wx => PuEnd H ⟨n, lo, x⟩ w3 a8 wx)
        case first =>
          go_wp2_with fail
          go_loopw [8] (fun kv wr => PuRel H ⟨n, lo, x⟩ w3 kv wr) (fun kv _ => (intOf kv).toNat)
          case atStart => exact ⟨H.length, Nat.le_refl _, rfl, fun i h h' => absurd h' (by omega), Fr.refl _ _⟩
          case round =>
            obtain ⟨k, hk, rfl, hall, hfr⟩ := hrel
            have c1 := (HB.out.fr hfr (fun h => h)).cell 0
            simp only [List.getElem?_toArray, List.getElem?_cons_zero] at c1
            obtain ⟨d0, d1, d2⟩ := HBC.out _ _ (HB3.out.fr hfr (fun h => h))
            have HALL := Lib.hid hall
            clear hall
            by_cases hk0 : 0 < k
            · obtain ⟨j, hj⟩ : ∃ j, k = j + 1 := ⟨k - 1, by omega⟩
              have hjl : j < H.length := by omega
              obtain ⟨ad, rfl, _, p0, p1, _⟩ := hd_at (HO.out.rd.fr (by omega) hfr (fun _ _ _ h => h)) j hjl
              have hkj : (k : Int) - 1 = (j : Int) := by omega
              have hgt : (0 : Int) < (k : Int) := by omega
              have h3 := HP.out H[j] (List.getElem_mem hjl)
              have h4 : (⟨H[j].acct.toArray⟩ : ByteArray).size = H[j].acct.length := by
                show H[j].acct.toArray.size = _
                simp
              have hsz : (⟨H[j].acct.toArray⟩ : ByteArray).size ≤ maxLen := by rw [h4]; unfold maxLen; omega
              have HAH : Hid (∀ m, Calls Tryz.prog 58 #[.string ⟨lo.toArray⟩, .string ⟨H[j].acct.toArray⟩] (wr.drewN m) fun e w' => e = .returned (.bool (bytesBefore lo H[j].acct)) ∧ ∃ m', w' = (wr.drewN m).drewN m') := fun m => refahead_any ⟨lo.toArray⟩ ⟨H[j].acct.toArray⟩ (wr.drewN m) HSZ.out hsz
              have hd0 : decide ((0 : Int) < (k : Int)) = true := decide_eq_true hgt
              have hwj : IntKind.i64.wrap ((k : Int) - 1) = (j : Int) := by rw [hkj]; exact IntWalk.i64_in _ (by omega)
              clear h3 h4 hsz
              have HFR := Lib.hid hfr
              have HNX : Hid (hB ⟨n, lo, x⟩ H[j] = true → ∀ i (h : i < H.length), j ≤ i → hB ⟨n, lo, x⟩ H[i] = true) := fun hb i h hji => by
                rcases Nat.eq_or_lt_of_le hji with e | e
                · subst e; exact hb
                · exact HALL.out i h (by omega)
              have HND : Hid (hB ⟨n, lo, x⟩ H[j] = false → ∀ (_ : 0 < k) (h2 : k - 1 < H.length), hB ⟨n, lo, x⟩ H[k - 1] = false) := fun hb _ h2 => by
                subst hj
                exact hb
              generalize H[j] = y at *
              obtain ⟨yn, ya, ys⟩ := y
              simp only at p0 p1 HAH
              clear hfr hj
              by_cases hbf : bytesBefore lo ya = true
              · have HN2 := Lib.hid (HNX.out (hB_iff.2 (.inl hbf)))
                rw [hbf] at HAH
                clear hbf
                go_wp2_with fail
                go_quiet ((go_at_call 58; exact Calls.quiet_of (HAH.out _)))
                clear hwj
                go_wp2
                go_roundw
                case rel => exact ⟨j, by omega, by first | rfl | go_num, HN2.out, HFR.out.drewN _⟩
                case measure => simp [intOf]; omega
              · have hbf' : bytesBefore lo ya = false := by simpa using hbf
                rw [hbf'] at HAH
                by_cases he : lo = ya
                · subst he
                  by_cases hn : n < yn
                  · have HN2 := Lib.hid (HNX.out (hB_iff.2 (.inr ⟨rfl, hn⟩)))
                    have hd2 : decide (n < yn) = true := decide_eq_true hn
                    clear hbf hbf'
                    go_wp2_with fail
                    go_quiet ((go_at_call 58; exact Calls.quiet_of (HAH.out _)))
                    clear hwj
                    go_wp2
                    go_roundw
                    case rel => exact ⟨j, by omega, by first | rfl | go_num, HN2.out, HFR.out.drewN _⟩
                    case measure => simp [intOf]; omega
                  · have hd2 : decide (n < yn) = false := decide_eq_false hn
                    have HN2 := Lib.hid (HND.out (by
                      cases hq : hB ⟨n, lo, x⟩ ⟨yn, lo, ys⟩ with
                      | false => rfl
                      | true =>
                        rcases hB_iff.1 hq with h | ⟨_, h⟩
                        · exact absurd h hbf
                        · exact absurd h hn))
                    clear hbf hbf'
                    go_wp2_with fail
                    go_quiet ((go_at_call 58; exact Calls.quiet_of (HAH.out _)))
                    clear hwj
                    go_wp2
                    go_meet
                    exact ⟨k, hk, rfl, HALL.out, HN2.out, HFR.out.drewN _⟩
                · have HN2 := Lib.hid (HND.out (by
                    cases hq : hB ⟨n, lo, x⟩ ⟨yn, ya, ys⟩ with
                    | false => rfl
                    | true =>
                      rcases hB_iff.1 hq with h | ⟨h, _⟩
                      · exact absurd h hbf
                      · exact absurd h he))
                  have hz : (lo == ya) = false := beq_eq_false_iff_ne.2 he
                  have hz2 : ((⟨lo.toArray⟩ : ByteArray).toList == (⟨ya.toArray⟩ : ByteArray).toList) = false := by rw [ByteArray.toList_eq, ByteArray.toList_eq]; exact hz
                  clear hbf hbf' he
                  go_wp2_with fail
                  go_quiet ((go_at_call 58; exact Calls.quiet_of (HAH.out _)))
                  clear hwj
                  go_wp2
                  go_meet
                  exact ⟨k, hk, rfl, HALL.out, HN2.out, HFR.out.drewN _⟩
            · have hgt : ¬ (0 : Int) < (k : Int) := by omega
              have HFR := Lib.hid hfr
              have HNX : Hid (∀ (_ : 0 < k) (h2 : k - 1 < H.length), hB ⟨n, lo, x⟩ H[k - 1] = false) := fun h _ => absurd h hk0
              have hd0 : decide ((0 : Int) < (k : Int)) = false := decide_eq_false hgt
              have hd1 : decide (0 < k) = false := decide_eq_false hk0
              clear hfr hk0
              go_wp2_with fail
              go_quiet (fail)
              go_wp2
              go_meet
              exact ⟨k, hk, rfl, HALL.out, HNX.out, HFR.out.drewN _⟩
        case rest =>
          obtain ⟨k, hk, rfl, hall, hno, hfr⟩ := hcut
          have HP2 : Hid (putHH S H n lo x = H.take k ++ ⟨n, lo, x⟩ :: H.drop k) := by
            show _ = _
            unfold putHH
            rw [HZ.out, if_pos rfl]
            exact insH_at H ⟨n, lo, x⟩ k hk HR.out hall hno
          have HS2 : Hid (putSS S H n lo x = asdS S lo x) := by
            show _ = _
            unfold putSS
            rw [HZ.out, if_pos rfl]
          have hbW := HB.out.fr hfr (fun h => h)
          have k0 := hbW.cell 0
          have z0 := hbW.frozen 0
          simp only [List.getElem?_toArray, List.getElem?_cons_zero] at k0
          have hrd := HO.out.rd.fr (by omega) hfr (fun _ _ _ h => h)
          have hrdT : Rd wc (fun k' => (Value.slice A H.length c).ownBlock = some k') 3 A k (hds (H.take k)) := by
            have := hrd.take hk
            rwa [hds_take H k hk] at this
          obtain ⟨X, hX⟩ : ∃ X, X = if c = k then A else A.map (·.add (k * 3)) := ⟨_, rfl⟩
          have hrdD : Rd wc (fun k' => (Value.slice A H.length c).ownBlock = some k') 3 X (H.length - k) (hds (H.drop k)) := by
            have := hrd.cut hk hLc
            rw [hds_drop H k hk] at this
            rwa [hX]
          have HST : Hid (∀ W c', Fr No wc W → Src Tryz.prog W 3 123 (.slice A k c') k (hds (H.take k))) := fun W c' hW => Src.of_rd (rd_noR hrdT (by omega) hW) (hds_ones _) Tryz.underlying123
          have HSD : Hid (∀ W c', Fr No wc W → Src Tryz.prog W 3 123 (.slice X (H.length - k) c') (H.length - k) (hds (H.drop k))) := fun W c' hW => Src.of_rd (rd_noR hrdD (by omega) hW) (hds_ones _) Tryz.underlying123
          have HBW := Lib.hid hbW
          have HFW := Lib.hid hfr
          have HBX := Lib.hid (HB3.out.fr hfr (fun h => h))
          have HCELL : Hid (∀ W, Fr No wc W → W.cell? ⟨r, 0, none⟩ = some (.slice A H.length c) ∧ W.cell? ⟨w.heap.size, 0, none⟩ = some (.int .i64 n) ∧ W.cell? ⟨w.heap.size, 1, none⟩ = some (.string ⟨lo.toArray⟩) ∧ W.cell? ⟨w.heap.size, 2, none⟩ = some (.int .i64 x)) := fun W hW => ⟨hW.cell_some k0 (fun h => h), HBC.out _ _ (HBX.out.fr hW (fun h => h))⟩
          have hkc : k ≤ c := by omega
          have hqa := fun o => HCELL.out _ ((Fr.refl No wc).alloc o)
          obtain ⟨_, d0, d1, d2⟩ := HCELL.out _ (Fr.refl No wc)
          have hdd : Fr No wc wc.drew := (Fr.refl _ _).drew
          have HM : Hid (0 + k ≤ maxLen ∧ (0 + k) * 32 ≤ 140737488355328 ∧ k + 1 ≤ maxLen ∧ (k + 1) * 32 ≤ 140737488355328 ∧ k + 1 + (H.length - k) ≤ maxLen ∧ (k + 1 + (H.length - k)) * 32 ≤ 140737488355328) := by
            refine ⟨?_, ?_, ?_, ?_, ?_, ?_⟩ <;> (try simp only [maxLen]) <;> omega
          clear hall hno hrd hrdT hrdD c0 hbW hfr
          by_cases hck : c = k
          all_goals
            first | rw [if_pos hck] at hX | rw [if_neg hck] at hX
            subst hX
            go_wp2
            go_region_law (first
              | (refine step_app _ rfl (.const (.slice none 0 0)) (.tmp 101) 123 123 rfl elHR (Own.nil _ _ _) rfl (HST.out _ _ (by first | assumption | exact Fr.alloc (by assumption) _ | exact ((Fr.refl _ _).alloc _).drew)) rfl HM.out.1 HM.out.2.1 ?_; intro v5 w5 ho5 hf5 hn5; rw [Nat.zero_add, List.nil_append] at ho5
                 have hq5 : Fr No wc w5 := Fr.trans (by first | assumption | exact Fr.alloc (by assumption) _ | exact ((Fr.refl _ _).alloc _).drew) (fr_at_none hf5)
                 have hc5 := HCELL.out _ hq5
                 have hqa5 := fun o => HCELL.out _ (hq5.alloc o)
                 have hB5 := hf5.block wc.heap.size
                 have hw5 : Newer wc.heap.size none v5.ownBlock := Newer.trans (.inl rfl) (Newer.of hn5) (by first | exact Nat.le_refl _ | (show wc.heap.size ≤ (wc.alloc _).heap.size; rw [World.size_alloc]; exact Nat.le_succ _)))
              | (refine step_app _ rfl (.tmp 102) (.tmp 104) 123 123 rfl elHR ho5 rfl (Src.of_new wc.heap.size (by rw [hB5 (by show _ < (wc.alloc _).heap.size; rw [World.size_alloc]; exact Nat.lt_succ_self _) (fun h => by cases h)]; exact heap_alloc_new wc _) Tryz.underlying123 rfl (by simp [Value.oneCell'])) rfl HM.out.2.2.1 HM.out.2.2.2.1 ?_; intro v6 w6 ho6 hf6 hn6
                 have hq6 : Fr No wc w6 := fr_no hq5 hw5 hf6
                 have hw6 : Newer wc.heap.size none v6.ownBlock := Newer.trans hw5 (Newer.of hn6) hq5.size
                 have hc6 := HCELL.out _ hq6)
              | (refine step_app _ rfl (.tmp 102) (.tmp 104) 123 123 rfl elHR (ho5.alloc _) rfl (Src.of_new w5.heap.size (heap_alloc_new _ _) Tryz.underlying123 rfl (by simp [Value.oneCell'])) rfl HM.out.2.2.1 HM.out.2.2.2.1 ?_; intro v6 w6 ho6 hf6 hn6
                 have hq6 : Fr No wc w6 := fr_no (hq5.alloc _) hw5 hf6
                 have hw6 : Newer wc.heap.size none v6.ownBlock := Newer.trans hw5 (Newer.of hn6) (Nat.le_trans hq5.size (by simp))
                 have hc6 := HCELL.out _ hq6)
              | (refine step_app _ rfl (.tmp 105) (.tmp 111) 123 123 rfl elHR ho6 rfl (HSD.out _ _ hq6) rfl HM.out.2.2.2.2.1 HM.out.2.2.2.2.2 ?_; intro v7 w7 ho7 hf7 hn7
                 have hq7 : Fr No wc w7 := fr_no hq6 hw6 hf7
                 have hb7 := HBW.out.fr hq7 (fun h => h)
                 have k7 := hb7.cell 0
                 have z7 := hb7.frozen 0
                 simp only [List.getElem?_toArray, List.getElem?_cons_zero] at k7
                 obtain ⟨g, c7, cur7, rfl, hg7, hc7, hm7, _, _⟩ := ho7.formPos (by omega)))
            all_goals
              have HO7 := Lib.hid ho7
              have HB7 := Lib.hid hb7
              have HQ7 := Lib.hid hq7
              clear ho7 hb7 hq7 hg7
              go_wp2
              go_ret
              have hlen : k + 1 + (H.length - k) = (H.take k ++ (⟨n, lo, x⟩ : Hd) :: H.drop k).length := by
                rw [List.length_append, List.length_cons, List.length_take, List.length_drop]
                omega
              have hq8 : Fr (At1 r) w7 (w7.setCell ⟨r, 0, none⟩ (.slice (some ⟨g, 0, none⟩) (k + 1 + (H.length - k)) c7)) := Fr.setCell (S := At1 r) (p := ⟨r, 0, none⟩) (Fr.refl _ _) (fun _ => rfl) _
              refine ⟨by rw [HZ.out]; rfl, ?_, ?_, ?_⟩
              · rw [HS2.out]
                exact (HC3.out.no (HFW.out.trans HQ7.out)).holds HB7.out hq8
              · rw [HP2.out]
                refine rfh_mk hlen (HB7.out.set_ 0 _) hc7 hm7 ?_
                have h8 := HO7.out.setCell (p := ⟨r, 0, none⟩) (HO7.out.ne_ HB7.out (by decide)) (.slice (some ⟨g, 0, none⟩) (k + 1 + (H.length - k)) c7)
                rw [hds_append]
                simpa [hds, encH, List.append_assoc] using h8
              · exact (HF3.out.trans ((HFW.out.trans HQ7.out).mono fun _ _ h => False.elim h)).trans (hq8.mono fun _ _ h => .inr h)
      · have HZ := Lib.hid h0
        have HS0 : Hid (asdS S lo x = S) := asd_ne h0
        have hz : (asdE S lo x == 0) = false := beq_eq_false_iff_ne.2 h0
        have hz2 : (asdE S lo x != 0) = true := bne_iff_ne.2 h0
        rw [HS0.out] at HC3
        generalize asdE S lo x = E at *
        clear h0
        go_wp2
        go_ret
        exact HERR.out _ E HC3.out HH3.out HF3.out HE.out HZ.out
  · have HE : Hid (putE S H n lo x = 7) := by show _ = _; rw [HE0.out, hg]; rfl
    have hk0 : (0 : Int) ≤ (k : Int) := by omega
    clear hg e1 e2
    go_wp2
    go_ret
    exact HERR1.out _ 7 HFA.out HE.out (by decide)
end Go.Proofs.YtjbeaoabhhaiiaaGreat
