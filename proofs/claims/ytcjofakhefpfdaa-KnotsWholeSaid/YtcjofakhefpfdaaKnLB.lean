/- KnotsBack: the walk. -/
import Derived.Test.YtcjofakhefpfdaaKnM8
import Derived.Test.YtcjofakhefpfdaaKnOp
import Derived.Deep.DeepCutAuto
import Derived.Deep.CutBlock
import Derived.Deep.RegionLaw
namespace Go.Proofs.Ytcjofakhefpfdaa
open Go.RowKit Go.My Go.My.Kn Go.Maps
set_option linter.unusedSimpArgs false
set_option linter.unusedVariables false
attribute [local go_sem ↓] Go.wp_at_zero Go.wp_at_succ

theorem w1000 {s s1 : Nat} (h : s1 = s + 1) (hm : s ≤ 1000) : wrap64 ((s : Int) + 1) = (s1 : Int) := by subst h; unfold wrap64; omega
theorem len_le_sub : ∀ {l m : List (List Nat)}, l.Nodup → (∀ x ∈ l, x ∈ m) → l.length ≤ m.length
  | [], m, _, _ => Nat.zero_le _
  | a :: l, m, hd, hs => by
    rw [List.nodup_cons] at hd
    have ha := hs a List.mem_cons_self
    have h1 := len_le_sub (l := l) (m := m.erase a) hd.2 (fun x hx => (List.mem_erase_of_ne (fun e => hd.1 (by rw [← e]; exact hx))).2 (hs x (List.mem_cons_of_mem _ hx)))
    rw [List.length_erase_of_mem ha] at h1
    have h2 := List.length_pos_of_mem ha
    rw [List.length_cons]
    omega
theorem usF_skip {P : List (List Int)} {i j : Nat} (hj : j < (gat P i).length) (h : ∀ b : Nat, b < P.length → (gat P i)[j] ≠ (b : Int)) : rows (usF P i j) P.length = rows (usF P i (j + 1)) P.length := rows_congr fun b hb => by
  unfold usF
  rw [List.take_succ_eq_append_getElem hj, usA_append]
  have e : usA P i [(gat P i)[j]] b = [] := by
    unfold usA
    have : ((gat P i)[j] == (b : Int)) = false := beq_eq_false_iff_ne.2 (h b hb)
    rw [List.filter_cons, this]; rfl
  rw [e, List.append_nil]
theorem usersG_rowL {G : List (List Int)} {M : Nat} (hM : ∀ k, (gat G k).length ≤ M) : ∀ L ∈ usersG G, L.length ≤ (G.length + 1) * M := fun L hL => by
  rw [← usF_all] at hL
  obtain ⟨k, hk, rfl⟩ := List.mem_iff_getElem.1 hL
  rw [rows_getE]
  exact usF_len G M hM _ _ _
def BkO (G : List (List Int)) (n bs : Nat) (w2 : World) (i j : Nat) (wr : World) : Prop := ∃ vs : List Value, IRows bs wr bs vs (rows (usF G i j) n) ∧ Fr No w2 wr

set_option maxRecDepth 100000 in
set_option maxHeartbeats 8000000 in
theorem knotsBack_walk (A : Option Addr) (c : Nat) (g : List (List Int)) (W : World) (hg : RdG W (Lt W.heap.size) A g) (lc : g.length ≤ c) (cm : c ≤ maxLen) :
    Calls Try.prog 7 #[.slice A g.length c] W (RetTrue W) := by
  have hmax : maxLen ≤ 9223372036854775807 := by simp [maxLen]
  have HFW : Hid (∀ w1, Fr No W w1 → Calls Try.prog 10 #[.slice A g.length c, .int .i64 25] w1 (FewR w1 (Lt W.heap.size) g 25)) := Lib.hid (fun w1 h1 => few_any w1 (Lt W.heap.size) A c 25 g (hg.no h1) (by omega) (by omega))
  have HLV := Lib.hid (lives13 W)
  clear hg lc cm hmax
  go_enter Try.func7, Try.ntmps7
  go_upto_region 4 with (first
    | (go_at_call 9; (with_reducible refine HLV.out.mono ?_); rintro _ w1 ⟨rfl, hf1⟩; have HF1 := Lib.hid hf1; clear hf1)
    | (go_at_call 10; (with_reducible refine (HFW.out _ HF1.out).mono ?_); rintro _ w2 ⟨B, d, rfl, hg2, hf2⟩; have HG2 := Lib.hid hg2; have HF2 := Lib.hid (HF1.out.trans hf2); clear hg2 hf2))
  have hn25 : (fewG g 25).length ≤ 25 := by rw [fewG_len]; omega
  have hm20 : ∀ L ∈ fewG g 25, L.length ≤ 20 := fewG_row
  generalize fewG g 25 = G at *
  generalize hgn : G.length = n at *
  have hgm : ∀ k, (gat G k).length ≤ 20 := gat_len hm20
  have HGM := Lib.hid hgm
  have HM20 := Lib.hid hm20
  have HGN := Lib.hid hgn
  clear hgn hm20 hgm
  have hmk2 := fun W => run_make1 (P := Try.prog) elG zeroG rfl .i64 .i64 n (by omega) (by simp only [maxLen]; omega) W
  obtain ⟨bs, hbs⟩ : ∃ bs, bs = w2.heap.size := ⟨_, rfl⟩
  have HZ : Hid (BkO G n bs w2 0 0 (w2.alloc (.cells (zrow n (.slice none 0 0)).toArray 26))) := Lib.hid ⟨_, by
    have h1 := IRows.zero w2 n (by omega)
    have h2 := usF_zero G
    rw [HGN.out] at h2
    rw [h2, hbs]; exact h1, (Fr.refl _ _).alloc _⟩
  have HBS := Lib.hid hbs
  go_upto_block 0 with (fail)
  rw [← hbs]
  clear hbs hmk2
  generalize w2.alloc (.cells (zrow n (.slice none 0 0)).toArray 26) = w3 at *
  go_cut [3] (fun a3 wx => a3 = .slice (some ⟨bs, 0, none⟩) n n ∧ BkO G n bs w2 n 0 wx)
  case first =>
    go_wp2
    go_loopw [4] (fun iv wr => ∃ i : Nat, iv = .int .i64 (i : Int) ∧ i ≤ n ∧ BkO G n bs w2 i 0 wr) (fun iv _ => n - (intOf iv).toNat)
    case atStart => exact ⟨0, rfl, Nat.zero_le _, HZ.out⟩
    case round =>
      obtain ⟨i, rfl, hi, vs, hR, hf⟩ := hrel
      have HR := Lib.hid hR
      have HF := Lib.hid hf
      clear hR hf
      by_cases hil : i < n
      · have hilI : (i : Int) < (n : Int) := by omega
        have hiG : i < G.length := by rw [HGN.out]; exact hil
        obtain ⟨adB, Ar, cr, rfl, hc0, hr0, hl0, hm0⟩ := HG2.out.at_ i hiG
        rw [← gat_at hiG] at hc0 hr0 hl0
        have HROW := Lib.hid (fun (w : World) (h : Fr No w2 w) => And.intro (h.cell_some hc0 (fun h => h)) (hr0.no_ h))
        obtain ⟨m, hm⟩ : ∃ m, m = (gat G i).length := ⟨_, rfl⟩
        have hm20 : m ≤ 20 := by rw [hm]; exact HGM.out i
        rw [← hm] at HROW
        have HMM := Lib.hid hm
        obtain ⟨i1, hi1⟩ : ∃ i1, i1 = i + 1 := ⟨_, rfl⟩
        have hwi : wrap64 ((i : Int) + 1) = (i1 : Int) := by unfold wrap64; omega
        have HI1 := Lib.hid hi1
        clear hc0 hr0 hl0 hm0 hm hi1 hiG
        go_wp2
        generalize wr = wo at *
        go_loopw [5] (fun jv wr => ∃ j : Nat, jv = .int .i64 (j : Int) ∧ j ≤ m ∧ BkO G n bs w2 i j wr) (fun jv _ => m - (intOf jv).toNat)
        case atStart => exact ⟨0, rfl, Nat.zero_le _, vs, HR.out, HF.out⟩
        case round =>
          obtain ⟨j, rfl, hj, us, hRj, hfj⟩ := hrel
          have HRJ := Lib.hid hRj
          have HFJ := Lib.hid hfj
          obtain ⟨hc1, hr1⟩ := HROW.out wr hfj
          by_cases hjl : j < m
          · have hjlI : (j : Int) < (m : Int) := by omega
            have hjg : j < (gat G i).length := by rw [← HMM.out]; exact hjl
            obtain ⟨ad, u, rfl, _, hu, hxc⟩ := hr1.at_ (k := j) hjl
            rw [is_at _ j hjg] at hu
            injection hu with hu
            subst hu
            obtain ⟨x, hx⟩ : ∃ x, x = (gat G i)[j] := ⟨_, rfl⟩
            rw [← hx] at hxc
            obtain ⟨j1, hj1⟩ : ∃ j1, j1 = j + 1 := ⟨_, rfl⟩
            have hwj : wrap64 ((j : Int) + 1) = (j1 : Int) := by unfold wrap64; omega
            have HJ1 := Lib.hid hj1
            clear hr1 hj1
            by_cases hin : 0 ≤ x ∧ x < (n : Int)
            · obtain ⟨t, rfl⟩ : ∃ t : Nat, x = (t : Int) := ⟨x.toNat, by omega⟩
              have htn : t < n := by omega
              have htI : (t : Int) < (n : Int) := by omega
              have ht0 : (0 : Int) ≤ (t : Int) := by omega
              have HPU : Hid ((rows (usF G i j) n).set t (usF G i j t ++ [(i : Int)]) = rows (usF G i (j + 1)) n) := Lib.hid (by
                have h1 := usF_push (P := G) hjg hx.symm
                rw [HGN.out] at h1; exact h1)
              obtain ⟨A1, c1, hv1, hcell, hown, hlc1, hcm1⟩ := hRj.cell (i := t) (by rw [rows_length]; exact htn)
              rw [rows_getE] at hv1 hcell hown hlc1
              have hpl := usF_len G 20 HGM.out i j t
              obtain ⟨cur, hcur⟩ := hRj.out.blk bs rfl
              have hbsl := hcur.lt
              have HV1 := Lib.hid hv1
              have HRW : Hid ((rows (usF G i j) n)[t]? = some (usF G i j t)) := Lib.hid (rows_get _ _ _ htn)
              have HOW := Lib.hid hown
              have HCUR := Lib.hid hcur
              generalize hPL : usF G i j t = L at *
              have hX : Hid (L.length + 1 ≤ maxLen ∧ (L.length + 1) * 8 ≤ 140737488355328) := by
                refine ⟨?_, ?_⟩ <;> (try simp only [maxLen]) <;> omega
              clear hRj hfj hv1 hcur hown hlc1 hcm1 hpl hx hin hPL hjg
              go_wp2_with (at_builtin; refine wpList_app _ rfl (.tmp 60) (.tmp 62) 26 26 rfl elI (HOW.out.alloc (.cells #[.int .i64 (i : Int)] 3)) rfl (Src.of_new (cs := #[.int .i64 (i : Int)]) (t := 3) wr.heap.size (heap_alloc_new wr _) Try.underlying26 rfl (by simp [Value.oneCell'])) rfl hX.out.1 hX.out.2 ?_; intro v3 w3' hown3 hfr3 hnew3; obtain ⟨A3, c3, rfl, -, -⟩ := hown3.form; have hne := HOW.out.ne_ HCUR.out (by decide); have hcu := (HCUR.out.alloc (.cells #[.int .i64 (i : Int)] 3)).fr hfr3 hne; have k1 := hcu.frozen t; have kc := hfr3.cell_some (((Fr.refl No wr).alloc (.cells #[.int .i64 (i : Int)] 3)).cell_some hcell (fun h => h)) hne; have HO3 := Lib.hid hown3; have HF3 := Lib.hid hfr3; have HN3 := Lib.hid hnew3; clear hown3 hfr3 hnew3 hne hcu)
              go_roundw
              case measure =>
                first
                  | (show m - (intOf (Value.int .i64 (wrap64 ((j : Int) + 1)))).toNat < m - (intOf (Value.int .i64 (j : Int))).toNat; rw [hwj]; exact num_lt hjl HJ1.out)
                  | (show m - (intOf (Value.int .i64 ((j : Int) + 1))).toNat < m - (intOf (Value.int .i64 (j : Int))).toNat; exact num_lt hjl rfl)
              case rel =>
                have hput := (HRJ.out.no ((Fr.refl No wr).alloc (.cells #[.int .i64 (i : Int)] 3))).put (L' := L ++ [(i : Int)]) HV1.out HRW.out HF3.out (by rw [List.length_append, is_append]; exact HO3.out) (HN3.out.imp id (fun e => ⟨_, e, Nat.le_refl _⟩)) (by have h1 := HBS.out; have h2 := HFJ.out.size; rw [World.size_alloc]; omega) rfl
                rw [HPU.out] at hput
                refine ⟨j1, by first | rw [hwj] | (rw [HJ1.out]; rfl), by rw [HJ1.out]; exact hjl, _, by rw [HJ1.out]; exact hput, ?_⟩
                exact ((HFJ.out.alloc (.cells #[.int .i64 (i : Int)] 3)).trans' HF3.out (fun k hk hlt => by
                  have h1 := HRJ.out.new t _ k HV1.out hk
                  have h2 := HBS.out
                  omega)).trans' (fr_set _ bs t _) (fun k hk hlt => by
                  have hk : k = bs := hk
                  have h2 := HBS.out
                  omega)
            · have HSK : Hid (rows (usF G i j) n = rows (usF G i (j + 1)) n) := Lib.hid (by
                have h1 := usF_skip (P := G) hjg (fun b hb e => hin (by rw [HGN.out] at hb; rw [hx, e]; omega))
                rw [HGN.out] at h1; exact h1)
              clear hRj hfj hx hjg
              by_cases hx0 : 0 ≤ x
              · have hxn : ¬ x < (n : Int) := fun h => hin ⟨hx0, h⟩
                clear hin
                go_wp2
                go_roundw
                case measure =>
                  first
                    | (show m - (intOf (Value.int .i64 (wrap64 ((j : Int) + 1)))).toNat < m - (intOf (Value.int .i64 (j : Int))).toNat; rw [hwj]; exact num_lt hjl HJ1.out)
                    | (show m - (intOf (Value.int .i64 ((j : Int) + 1))).toNat < m - (intOf (Value.int .i64 (j : Int))).toNat; exact num_lt hjl rfl)
                case rel => exact ⟨j1, by first | rw [hwj] | (rw [HJ1.out]; rfl), by rw [HJ1.out]; exact hjl, us, by rw [HJ1.out, ← HSK.out]; exact HRJ.out, HFJ.out⟩
              · clear hin
                go_wp2
                go_roundw
                case measure =>
                  first
                    | (show m - (intOf (Value.int .i64 (wrap64 ((j : Int) + 1)))).toNat < m - (intOf (Value.int .i64 (j : Int))).toNat; rw [hwj]; exact num_lt hjl HJ1.out)
                    | (show m - (intOf (Value.int .i64 ((j : Int) + 1))).toNat < m - (intOf (Value.int .i64 (j : Int))).toNat; exact num_lt hjl rfl)
                case rel => exact ⟨j1, by first | rw [hwj] | (rw [HJ1.out]; rfl), by rw [HJ1.out]; exact hjl, us, by rw [HJ1.out, ← HSK.out]; exact HRJ.out, HFJ.out⟩
          · have hjlI : ¬ (j : Int) < (m : Int) := by omega
            have hje : j = m := by omega
            clear hRj hfj hr1
            go_wp2
            go_roundw
            case measure =>
              first
                | (show n - (intOf (Value.int .i64 (wrap64 ((i : Int) + 1)))).toNat < n - (intOf (Value.int .i64 (i : Int))).toNat; rw [hwi]; exact num_lt hil HI1.out)
                | (show n - (intOf (Value.int .i64 ((i : Int) + 1))).toNat < n - (intOf (Value.int .i64 (i : Int))).toNat; exact num_lt hil rfl)
            case rel =>
              have h1 := HRJ.out
              have h2 := usF_next G i
              rw [HGN.out] at h2
              rw [hje, HMM.out, h2] at h1
              exact ⟨i1, by first | rw [hwi] | (rw [HI1.out]; rfl), by rw [HI1.out]; exact hil, us, by rw [HI1.out]; exact h1, HFJ.out⟩
      · have hilI : ¬ (i : Int) < (n : Int) := by omega
        have hie : i = n := by omega
        go_wp2
        go_meet
        case rel =>
          have h1 := HR.out
          rw [show usF G i 0 = usF G n 0 by rw [hie]] at h1
          exact ⟨rfl, vs, h1, HF.out⟩
  case rest =>
    obtain ⟨rfl, vs, hR, hf4⟩ := hcut
    generalize wc = w4 at *
    have hall : rows (usF G n 0) n = usersG G := by have h1 := usF_all G; rw [HGN.out] at h1; exact h1
    rw [hall] at hR
    have hul : (usersG G).length = n := by rw [usersG_len, HGN.out]
    have HRB := Lib.hid (hR.rdG)
    have HF4 := Lib.hid hf4
    have HUR : Hid (∀ L ∈ usersG G, L.length ≤ 520) := Lib.hid (fun L hL => Nat.le_trans (usersG_rowL HGM.out L hL) (by rw [HGN.out]; omega))
    have HKA : Hid (Calls Try.prog 11 #[.slice B n d] w4 (KnR w4 G)) := Lib.hid (by
      have h := knots_any w4 _ B d 20 G (HG2.out.no hf4) (by rw [HGN.out]; omega) HM20.out (by omega) (by rw [HGN.out]; omega)
      rw [HGN.out] at h; exact h)
    have HKB : Hid (∀ w5, Fr No w4 w5 → Calls Try.prog 11 #[.slice (some ⟨bs, 0, none⟩) n n] w5 (KnR w5 (usersG G))) := Lib.hid (fun w5 h5 => by
      have h := knots_any w5 _ (some ⟨bs, 0, none⟩) n 520 (usersG G) (HRB.out.no h5) (by omega) HUR.out (by omega) (by rw [hul]; omega)
      rw [hul] at h; exact h)
    have HRE : Hid (∀ w5, Fr No w4 w5 → ∀ y : Int, Calls Try.prog 16 #[.slice B n d, .int .i64 y] w5 (RetX w5 (reachX G y))) := Lib.hid (fun w5 h5 y => by
      have h := reach_any w5 _ B d G y ((HG2.out.no hf4).no h5) (by rw [HGN.out]; omega) (fun L hL => Nat.le_trans (HM20.out L hL) (by omega))
      rw [HGN.out] at h; exact h)
    have HRR : Hid (∀ w5, Fr No w4 w5 → ∀ y : Int, Calls Try.prog 16 #[.slice (some ⟨bs, 0, none⟩) n n, .int .i64 y] w5 (RetX w5 (reachX (usersG G) y))) := Lib.hid (fun w5 h5 y => by
      have h := reach_any w5 _ (some ⟨bs, 0, none⟩) n (usersG G) y (HRB.out.no h5) (by omega) (fun L hL => Nat.le_trans (HUR.out L hL) (by omega))
      rw [hul] at h; exact h)
    clear hR hf4 hall hul
    go_upto_block 4 with (first
      | (go_at_call 11; (with_reducible refine HKA.out.mono ?_); rintro _ w5 ⟨La, Aa, ca, rfl, p1, p2, p3, p4, p5⟩; have HA1 := Lib.hid p1; have HA2 := Lib.hid p2; have HF5 := Lib.hid p5; have hlA := Nat.le_trans p3 p4; clear p1 p2 p3 p4 p5)
      | (go_at_call 11; (with_reducible refine (HKB.out _ HF5.out).mono ?_); rintro _ w6 ⟨Lb, Ab, cb, rfl, p1, p2, p3, p4, p5⟩; have HB1 := Lib.hid p1; have HB2 := Lib.hid p2; have HF6 := Lib.hid p5; have hlB := Nat.le_trans p3 p4; clear p1 p2 p3 p4 p5))
    have HKK : Hid (La.Nodup ∧ Lb.Nodup ∧ (∀ K, K ∈ La ↔ K ∈ Lb) ∧ La.length = Lb.length) := Lib.hid (by
      have h1 := HB1.out
      rw [usersG_len] at h1
      exact knots_back HA1.out h1)
    have HCL : Hid (∀ K ∈ La, K.length ≤ n) := Lib.hid (fun K hK => by
      obtain ⟨i, hi, _, rfl⟩ := (knseq_all (reachR G).toReach HA1.out).1 K hK
      unfold cls
      have h1 := List.length_filter_le (fun k => mu (via' G) i k) (List.range G.length)
      rw [List.length_range, HGN.out] at h1
      rw [HGN.out]
      exact h1)
    have HA3 : Hid (RdG w6 (fun k => w4.heap.size ≤ k) Aa (La.map il)) := Lib.hid (HA2.out.no HF6.out)
    have HFT : Hid (Fr No w4 w6) := Lib.hid (HF5.out.trans HF6.out)
    have hsm : La.length ≤ n := by
      have h1 := len_le_sub (m := (List.range n).map (cls n (via' G))) HKK.out.1 (fun K hK => by
        obtain ⟨i, hi, _, rfl⟩ := (knseq_all (reachR G).toReach HA1.out).1 K hK
        rw [HGN.out] at hi ⊢
        exact List.mem_map.2 ⟨i, List.mem_range.2 hi, rfl⟩)
      rwa [List.length_map, List.length_range] at h1
    have hsmB : Lb.length ≤ n := by rw [← HKK.out.2.2.2]; exact hsm
    have hB1000 : Lb.length ≤ 1000 := by omega
    clear hlA hlB
    go_cut [7] (fun a7 wx => a7 = .slice Aa La.length ca ∧ Fr No w6 wx)
    case first =>
      go_wp2
      go_loopw [9] (fun iv wr => ∃ i : Nat, iv = .int .i64 (i : Int) ∧ i ≤ La.length ∧ Fr No w6 wr) (fun iv _ => La.length - (intOf iv).toNat)
      case atStart => exact ⟨0, rfl, Nat.zero_le _, Fr.refl _ _⟩
      case round =>
        obtain ⟨i, rfl, hi, hf⟩ := hrel
        have HF := Lib.hid hf
        clear hf
        by_cases hil : i < La.length
        · have hilI : (i : Int) < (La.length : Int) := by omega
          obtain ⟨ad, A1, c1, rfl, t1, t2, _⟩ := HA3.out.at_ i (by rw [List.length_map]; exact hil)
          rw [List.getElem_map, il_len] at t1 t2
          have HKM : Hid (La[i] ∈ La) := Lib.hid (List.getElem_mem hil)
          have hKl := HCL.out _ (List.getElem_mem hil)
          generalize La[i] = K at *
          have HT1 := Lib.hid (fun (w : World) (h : Fr No w6 w) => And.intro (h.cell_some t1 (fun h => h)) (t2.no_ h))
          obtain ⟨i1, hi1⟩ : ∃ i1, i1 = i + 1 := ⟨_, rfl⟩
          have hwi : wrap64 ((i : Int) + 1) = (i1 : Int) := by unfold wrap64; omega
          have HI1 := Lib.hid hi1
          clear t1 t2 hi1
          go_wp2
          generalize wr = wo at *
          go_loopw [10, 11] (fun sv kv wr => ∃ k s : Nat, s = (Lb.take k).count K ∧ sv = .int .i64 (s : Int) ∧ kv = .int .i64 (k : Int) ∧ k ≤ Lb.length ∧ Fr No w6 wr) (fun _ kv _ => Lb.length - (intOf kv).toNat)
          case atStart => exact ⟨0, 0, by simp, rfl, rfl, Nat.zero_le _, HF.out⟩
          case round =>
            obtain ⟨k, s, hs, rfl, rfl, hk, hf2⟩ := hrel
            have HS := Lib.hid hs
            have HF2' := Lib.hid hf2
            have hsk : s ≤ k := by rw [hs]; exact Nat.le_trans List.count_le_length (by rw [List.length_take]; omega)
            clear hs
            by_cases hkl : k < Lb.length
            · have hklI : (k : Int) < (Lb.length : Int) := by omega
              obtain ⟨ad2, A2, c2, e2, u1, u2, _⟩ := (HB2.out.no hf2).at_ k (by rw [List.length_map]; exact hkl)
              rw [List.getElem_map, il_len] at u1 u2
              obtain ⟨q, hq⟩ : ∃ q, q = decide (K = Lb[k]) := ⟨_, rfl⟩
              have hcnt : (Lb.take (k + 1)).count K = s + if q then 1 else 0 := by
                rw [List.take_succ_eq_append_getElem hkl, List.count_append, ← HS.out, hq]
                by_cases e : K = Lb[k]
                · simp [e]
                · have e3 : ¬ Lb[k] = K := fun h => e h.symm
                  simp [e, List.count_cons, e3]
              have HCN := Lib.hid hcnt
              have hr1 := (HT1.out wr hf2).2
              have HSM : Hid (∀ w, Fr No wr w → Calls Try.prog 13 #[.slice A1 K.length c1, .slice A2 Lb[k].length c2] w fun e w' => e = .returned (.bool q) ∧ Fr No w w') := Lib.hid (fun w h => by
                have h1 := sameI_any w _ _ A1 A2 c1 c2 (il K) (il Lb[k]) (by rw [il_len]; exact hr1.no_ h) (by rw [il_len]; exact u2.no_ h) (by rw [il_len]; omega)
                rw [il_len, il_len] at h1
                have e : decide (il K = il Lb[k]) = q := by
                  rw [hq, Bool.eq_iff_iff, decide_eq_true_iff, decide_eq_true_iff]
                  constructor
                  · intro e
                    have e2 := congrArg (List.map Int.toNat) e
                    unfold il at e2
                    rw [List.map_map, List.map_map] at e2
                    have e3 : ∀ l : List Nat, l.map (Int.toNat ∘ fun (x : Nat) => (x : Int)) = l := fun l => by
                      conv => rhs; rw [← List.map_id l]
                      exact List.map_congr_left fun x _ => by simp
                    rwa [e3, e3] at e2
                  · intro e; rw [e]
                rw [e] at h1
                exact h1)
              have hcA := (HT1.out wr hf2).1
              generalize Lb[k] = Q at *
              obtain ⟨k1, hk1⟩ : ∃ k1, k1 = k + 1 := ⟨_, rfl⟩
              have hwk : wrap64 ((k : Int) + 1) = (k1 : Int) := by unfold wrap64; omega
              have HK1 := Lib.hid hk1
              obtain ⟨s1, hs1⟩ : ∃ s1, s1 = s + 1 := ⟨_, rfl⟩
              have hws : wrap64 ((s : Int) + 1) = (s1 : Int) := w1000 hs1 (Nat.le_trans hsk (Nat.le_trans hk hB1000))
              have HDR : Hid (Fr No wr wr.drew) := Lib.hid (Fr.refl No wr).drew
              have HS1 := Lib.hid hs1
              subst e2
              clear hf2 hr1 u2 hq hcnt hk1 hs1
              cases q with
              | true =>
                go_wp2
                go_region_with (go_at_call 13; (with_reducible refine Calls.mono (HSM.out _ HDR.out) ?_); rintro _ w8 ⟨rfl, hf8⟩; have HF8 := Lib.hid hf8; clear hf8)
                all_goals
                  go_wp2
                  go_roundw
                  case measure =>
                    first
                      | (show Lb.length - (intOf (Value.int .i64 (wrap64 ((k : Int) + 1)))).toNat < Lb.length - (intOf (Value.int .i64 (k : Int))).toNat; rw [hwk]; exact num_lt hkl HK1.out)
                      | (show Lb.length - (intOf (Value.int .i64 ((k : Int) + 1))).toNat < Lb.length - (intOf (Value.int .i64 (k : Int))).toNat; exact num_lt hkl rfl)
                  case rel =>
                    refine ⟨k1, s1, by rw [HK1.out, HCN.out, HS1.out]; rfl, by first | rw [hws] | (rw [HS1.out]; rfl), by first | rw [hwk] | (rw [HK1.out]; rfl), by rw [HK1.out]; exact hkl, HF2'.out.trans (by first | exact HF8.out | exact ((Fr.refl No _).drew).trans HF8.out | exact (HF8.out).drew)⟩
              | false =>
                go_wp2
                go_region_with (go_at_call 13; (with_reducible refine Calls.mono (HSM.out _ HDR.out) ?_); rintro _ w8 ⟨rfl, hf8⟩; have HF8 := Lib.hid hf8; clear hf8)
                all_goals
                  go_wp2
                  go_roundw
                  case measure =>
                    first
                      | (show Lb.length - (intOf (Value.int .i64 (wrap64 ((k : Int) + 1)))).toNat < Lb.length - (intOf (Value.int .i64 (k : Int))).toNat; rw [hwk]; exact num_lt hkl HK1.out)
                      | (show Lb.length - (intOf (Value.int .i64 ((k : Int) + 1))).toNat < Lb.length - (intOf (Value.int .i64 (k : Int))).toNat; exact num_lt hkl rfl)
                  case rel =>
                    refine ⟨k1, s, by rw [HK1.out, HCN.out]; rfl, rfl, by first | rw [hwk] | (rw [HK1.out]; rfl), by rw [HK1.out]; exact hkl, HF2'.out.trans (by first | exact HF8.out | exact ((Fr.refl No _).drew).trans HF8.out | exact (HF8.out).drew)⟩
            · have hklI : ¬ (k : Int) < (Lb.length : Int) := by omega
              have hke : k = Lb.length := by omega
              have hs1 : s = 1 := by
                rw [HS.out, hke, List.take_length, HKK.out.2.1.count, if_pos ((HKK.out.2.2.1 K).1 HKM.out)]
              have hsI : ((s : Int) != 1) = false := by rw [hs1]; rfl
              clear hs1 hf2 hke
              go_wp2
              go_roundw
              case measure =>
                first
                  | (show La.length - (intOf (Value.int .i64 (wrap64 ((i : Int) + 1)))).toNat < La.length - (intOf (Value.int .i64 (i : Int))).toNat; rw [hwi]; exact num_lt hil HI1.out)
                  | (show La.length - (intOf (Value.int .i64 ((i : Int) + 1))).toNat < La.length - (intOf (Value.int .i64 (i : Int))).toNat; exact num_lt hil rfl)
              case rel => exact ⟨i1, by first | rw [hwi] | (rw [HI1.out]; rfl), by rw [HI1.out]; exact hil, HF2'.out⟩
        · have hilI : ¬ (i : Int) < (La.length : Int) := by omega
          go_wp2
          go_meet
          case rel => exact ⟨rfl, HF.out⟩
    case rest =>
      obtain ⟨rfl, hf7⟩ := hcut
      generalize wc = w7 at *
      have HF7 : Hid (Fr No w4 w7) := Lib.hid (HFT.out.trans hf7)
      have hlen : ((La.length : Int) == (Lb.length : Int)) = true := by rw [HKK.out.2.2.2]; simp
      clear hf7
      go_wp2
      go_loopw [12] (fun iv wr => ∃ i : Nat, iv = .int .i64 (i : Int) ∧ i ≤ n ∧ Fr No w7 wr) (fun iv _ => n - (intOf iv).toNat)
      case atStart => exact ⟨0, rfl, Nat.zero_le _, Fr.refl _ _⟩
      case round =>
        obtain ⟨i, rfl, hi, hf⟩ := hrel
        have HF := Lib.hid hf
        clear hf
        by_cases hil : i < n
        · have hilI : (i : Int) < (n : Int) := by omega
          have HRY := Lib.hid (HRE.out wr (HF7.out.trans HF.out) (i : Int))
          obtain ⟨i1, hi1⟩ : ∃ i1, i1 = i + 1 := ⟨_, rfl⟩
          have hwi : wrap64 ((i : Int) + 1) = (i1 : Int) := by unfold wrap64; omega
          have HI1 := Lib.hid hi1
          clear hi1
          go_wp2_with (go_at_call 16; (with_reducible refine HRY.out.mono ?_); rintro _ w8 ⟨Lr, p1, p2, v8, rfl, p3, p4, p5⟩; obtain ⟨Ar, cr, rfl, hc8, hm8⟩ := p3.form; have f8 := fr_at_none p4; have HF8 := Lib.hid (HF.out.trans f8); have HR2 := Lib.hid p2; have HR3 := Lib.hid p3; have hlR : Lr.length ≤ n := retx_len p1 (fun y hy => by obtain ⟨a, b, _, rfl, ht⟩ := (reachX_iff G _ y).1 ((p2 y).1 hy); have h9 := ((reachR G).lt a b ((vtr G a b).2 ht)).2; rw [HGN.out] at h9; omega); clear p1 p2 p3 p4 p5 f8 hc8 hm8)
          generalize wr = wo at *
          go_loopw [14] (fun jv wr => ∃ j : Nat, jv = .int .i64 (j : Int) ∧ j ≤ Lr.length ∧ Fr No w8 wr) (fun jv _ => Lr.length - (intOf jv).toNat)
          case atStart => exact ⟨0, rfl, Nat.zero_le _, Fr.refl _ _⟩
          case round =>
            obtain ⟨j, rfl, hj, hfj⟩ := hrel
            have HFJ := Lib.hid hfj
            by_cases hjl : j < Lr.length
            · have hjlI : (j : Int) < (Lr.length : Int) := by omega
              obtain ⟨adr, u, rfl, _, hu, hcr⟩ := (HR3.out.rd.no_ hfj).at_ (k := j) hjl
              rw [is_at _ j hjl] at hu
              injection hu with hu
              subst hu
              have HZR : Hid (reachX G (i : Int) Lr[j]) := Lib.hid ((HR2.out _).1 (List.getElem_mem hjl))
              generalize Lr[j] = z at *
              have HRZ := Lib.hid (HRR.out wr ((HF7.out.trans HF8.out).trans hfj) z)
              have HIM : Hid (reachX (usersG G) z (i : Int)) := Lib.hid (by
                obtain ⟨a, b, ha, rfl, ht⟩ := (reachX_iff G _ z).1 HZR.out
                exact (reachX_iff _ _ _).2 ⟨b, a, rfl, ha, tr_back.2 ht⟩)
              obtain ⟨j1, hj1⟩ : ∃ j1, j1 = j + 1 := ⟨_, rfl⟩
              have hwj : wrap64 ((j : Int) + 1) = (j1 : Int) := by unfold wrap64; omega
              have HJ1 := Lib.hid hj1
              clear hj1 hfj
              go_wp2_with (go_at_call 16; (with_reducible refine HRZ.out.mono ?_); rintro _ w9 ⟨Lm, p1, p2, v9, rfl, p3, p4, p5⟩; obtain ⟨Am, cm, rfl, hc9, hm9⟩ := p3.form; have f9 := fr_at_none p4; have HF9 := Lib.hid (HFJ.out.trans f9); have HM2 := Lib.hid p2; have HM3 := Lib.hid p3; have hlM : Lm.length ≤ n := retx_len p1 (fun y hy => by obtain ⟨a, b, _, rfl, ht⟩ := (reachX_iff (usersG G) _ y).1 ((p2 y).1 hy); have h9 := ((reachR G).lt b a ((vtr G b a).2 (tr_back.1 ht))).1; rw [HGN.out] at h9; omega); clear p1 p2 p3 p4 p5 f9 hc9 hm9)
              generalize wr = wp at *
              go_loopw [16, 17] (fun tv mv wr => ∃ (m : Nat) (q : Bool), q = decide ((i : Int) ∈ Lm.take m) ∧ tv = .bool q ∧ mv = .int .i64 (m : Int) ∧ m ≤ Lm.length ∧ w9 = wr) (fun _ mv _ => Lm.length - (intOf mv).toNat)
              case atStart => exact ⟨0, false, by simp, rfl, rfl, Nat.zero_le _, rfl⟩
              case round =>
                obtain ⟨m, q, hq, rfl, rfl, hm, hw⟩ := hrel
                obtain rfl := hw
                have HQ := Lib.hid hq
                clear hq
                by_cases hml : m < Lm.length
                · have hmlI : (m : Int) < (Lm.length : Int) := by omega
                  obtain ⟨adm, u, rfl, _, hu, hcm⟩ := HM3.out.rd.at_ (k := m) hml
                  rw [is_at _ m hml] at hu
                  injection hu with hu
                  subst hu
                  obtain ⟨b, hb⟩ : ∃ b, b = (Lm[m] == (i : Int)) := ⟨_, rfl⟩
                  have hst : decide ((i : Int) ∈ Lm.take (m + 1)) = (q || b) := by
                    rw [List.take_succ_eq_append_getElem hml, HQ.out, hb, Bool.eq_iff_iff]
                    simp only [List.mem_append, List.mem_singleton, decide_eq_true_iff, Bool.or_eq_true, beq_iff_eq]
                    constructor
                    · rintro (h | h)
                      · exact .inl h
                      · exact .inr h.symm
                    · rintro (h | h)
                      · exact .inl h
                      · exact .inr h.symm
                  have HST := Lib.hid hst
                  generalize Lm[m] = y at *
                  have hbe : (y == (i : Int)) = b := hb.symm
                  obtain ⟨m1, hm1⟩ : ∃ m1, m1 = m + 1 := ⟨_, rfl⟩
                  have hwm : wrap64 ((m : Int) + 1) = (m1 : Int) := by unfold wrap64; omega
                  have HM1 := Lib.hid hm1
                  clear hb hst hm1
                  cases q with
                  | true =>
                    go_wp2
                    go_roundw
                    case measure =>
                      first
                        | (show Lm.length - (intOf (Value.int .i64 (wrap64 ((m : Int) + 1)))).toNat < Lm.length - (intOf (Value.int .i64 (m : Int))).toNat; rw [hwm]; exact num_lt hml HM1.out)
                        | (show Lm.length - (intOf (Value.int .i64 ((m : Int) + 1))).toNat < Lm.length - (intOf (Value.int .i64 (m : Int))).toNat; exact num_lt hml rfl)
                    case rel => exact ⟨m1, true, by rw [HM1.out, HST.out]; rfl, rfl, by first | rw [hwm] | (rw [HM1.out]; rfl), by rw [HM1.out]; exact hml, by first | rfl | trivial⟩
                  | false =>
                    go_wp2
                    go_roundw
                    case measure =>
                      first
                        | (show Lm.length - (intOf (Value.int .i64 (wrap64 ((m : Int) + 1)))).toNat < Lm.length - (intOf (Value.int .i64 (m : Int))).toNat; rw [hwm]; exact num_lt hml HM1.out)
                        | (show Lm.length - (intOf (Value.int .i64 ((m : Int) + 1))).toNat < Lm.length - (intOf (Value.int .i64 (m : Int))).toNat; exact num_lt hml rfl)
                    case rel => exact ⟨m1, b, by rw [HM1.out, HST.out]; rfl, by first | rfl | rw [hbe], by first | rw [hwm] | (rw [HM1.out]; rfl), by rw [HM1.out]; exact hml, by first | rfl | trivial⟩
                · have hmlI : ¬ (m : Int) < (Lm.length : Int) := by omega
                  have hqt : q = true := by
                    rw [HQ.out, show m = Lm.length by omega, List.take_length]
                    exact decide_eq_true ((HM2.out _).2 HIM.out)
                  subst hqt
                  go_wp2
                  go_roundw
                  case measure =>
                    first
                      | (show Lr.length - (intOf (Value.int .i64 (wrap64 ((j : Int) + 1)))).toNat < Lr.length - (intOf (Value.int .i64 (j : Int))).toNat; rw [hwj]; exact num_lt hjl HJ1.out)
                      | (show Lr.length - (intOf (Value.int .i64 ((j : Int) + 1))).toNat < Lr.length - (intOf (Value.int .i64 (j : Int))).toNat; exact num_lt hjl rfl)
                  case rel => exact ⟨j1, by first | rw [hwj] | (rw [HJ1.out]; rfl), by rw [HJ1.out]; exact hjl, HF9.out⟩
            · have hjlI : ¬ (j : Int) < (Lr.length : Int) := by omega
              clear hfj
              go_wp2
              go_roundw
              case measure =>
                first
                  | (show n - (intOf (Value.int .i64 (wrap64 ((i : Int) + 1)))).toNat < n - (intOf (Value.int .i64 (i : Int))).toNat; rw [hwi]; exact num_lt hil HI1.out)
                  | (show n - (intOf (Value.int .i64 ((i : Int) + 1))).toNat < n - (intOf (Value.int .i64 (i : Int))).toNat; exact num_lt hil rfl)
              case rel => exact ⟨i1, by first | rw [hwi] | (rw [HI1.out]; rfl), by rw [HI1.out]; exact hil, HF8.out.trans HFJ.out⟩
        · have hilI : ¬ (i : Int) < (n : Int) := by omega
          go_wp2
          go_ret
          exact ⟨rfl, (((HF2.out.trans HF4.out).trans HF7.out).trans HF.out).belowNo⟩
end Go.Proofs.Ytcjofakhefpfdaa
