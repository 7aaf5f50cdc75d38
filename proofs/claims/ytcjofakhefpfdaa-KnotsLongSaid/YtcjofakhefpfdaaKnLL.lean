/- KnotsLong: the walk. -/
import Derived.Test.YtcjofakhefpfdaaKnLG
import Derived.Test.YtcjofakhefpfdaaKnOp
import Derived.Deep.DeepCutAuto
import Derived.Deep.CutBlock
namespace Go.Proofs.Ytcjofakhefpfdaa
open Go.RowKit Go.My Go.My.Kn Go.Maps
set_option linter.unusedSimpArgs false
set_option linter.unusedVariables false
attribute [local go_sem ↓] Go.wp_at_zero Go.wp_at_succ

theorem alloc_set (w : World) (ob : Obj) (g i : Nat) (v : Value) (h : g < w.heap.size) : (w.alloc ob).setCell ⟨g, i, none⟩ v = (w.setCell ⟨g, i, none⟩ v).alloc ob := by
  have e : ((w.alloc ob).setCell ⟨g, i, none⟩ v).heap = ((w.setCell ⟨g, i, none⟩ v).alloc ob).heap := by
    simp only [World.setCell, World.alloc]
    apply Array.ext_getElem?
    intro k
    rw [Array.getElem?_modify, Array.getElem?_push, Array.getElem?_push, Array.size_modify, Array.getElem?_modify]
    by_cases e1 : k = w.heap.size
    · subst e1
      rw [if_pos rfl, if_neg (by omega), if_pos rfl]
    · rw [if_neg e1, if_neg e1]
  have e2 : ∀ a b : World, a.heap = b.heap → a = { b with heap := a.heap } → a = b := fun a b h1 h2 => by rw [h2, h1]
  exact e2 _ _ e rfl
/-- the first i places are laid -/
def lpR (n i a : Nat) : List Int := if a < i then lineR n false a else []
def LpG (n gs B i : Nat) (w : World) : Prop := ∃ vs : List Value, IRows B w gs vs (rows (lpR n i) n)
theorem lp_zero (n : Nat) : rows (lpR n 0) n = List.replicate n [] := by
  rw [← rows_nil]; exact rows_congr fun k _ => by unfold lpR; simp
theorem lp_step {n i : Nat} (h : i + 1 < n) : (rows (lpR n i) n).set i [((i + 1 : Nat) : Int), -1, (n : Int)] = rows (lpR n (i + 1)) n := by
  rw [rows_set]
  refine rows_congr fun k _ => ?_
  by_cases e : k = i
  · subst e; rw [if_pos rfl]; unfold lpR lineR; rw [if_pos (by omega), if_pos h]
  · rw [if_neg e]; unfold lpR
    by_cases e2 : k < i
    · rw [if_pos e2, if_pos (by omega)]
    · rw [if_neg e2, if_neg (by omega)]
theorem lp_row {n : Nat} (hn : 2 ≤ n) : rows (lpR n (n - 1)) n = lineG n false := rows_congr fun k hk => by
  unfold lpR
  by_cases e : k < n - 1
  · rw [if_pos e]
  · rw [if_neg e]; unfold lineR; rw [if_neg (by omega)]; rfl
theorem lp_ring {n : Nat} (hn : 2 ≤ n) : (rows (lpR n (n - 1)) n).set (n - 1) [0] = lineG n true := by
  rw [rows_set]
  refine rows_congr fun k hk => ?_
  by_cases e : k = n - 1
  · subst e; rw [if_pos rfl]; unfold lineR; rw [if_neg (by omega)]; rfl
  · rw [if_neg e]; unfold lpR lineR; rw [if_pos (by omega), if_pos (by omega), if_pos (by omega)]
theorem lineR_len {n : Nat} {r : Bool} : ∀ L ∈ lineG n r, L.length ≤ 3 := fun L hL => by
  obtain ⟨k, hk, rfl⟩ := List.mem_iff_getElem.1 hL
  rw [← gat_at hk, lineG_gat (by rw [lineG_len] at hk; exact hk)]
  unfold lineR
  split
  · simp
  · split <;> simp
def rowL (n : Nat) : List (List Int) := rows (fun i => [((n - 1 - i : Nat) : Int)]) n
theorem rowL_eq (n : Nat) : ((List.range n).reverse.map fun i => [i]).map il = rowL n := by
  unfold rowL rows
  rw [List.map_map]
  apply List.ext_getElem
  · simp
  · intro i h1 h2
    simp [il, List.getElem_reverse]
theorem reach_len {n : Nat} (hn : 2 ≤ n) {L : List Int} (h : L.Pairwise (· < ·)) (hm : ∀ x, x ∈ L ↔ reachX (lineG n false) 0 x) : L.length = n - 1 := by
  have e : L = (List.range (n - 1)).map fun (x : Nat) => (x : Int) + 1 := up_eqI h (by rw [List.pairwise_map]; exact List.pairwise_lt_range.imp fun h => by omega) fun x => by
    rw [hm, List.mem_map, reachX_iff]
    constructor
    · rintro ⟨i, j, hi, rfl, ht⟩
      obtain rfl : i = 0 := by omega
      rw [tr_row hn] at ht
      exact ⟨j - 1, List.mem_range.2 (by omega), by omega⟩
    · rintro ⟨a, ha, rfl⟩
      rw [List.mem_range] at ha
      exact ⟨0, a + 1, rfl, by omega, (tr_row hn 0 (a + 1)).2 ⟨by omega, by omega⟩⟩
  rw [e]; simp
/-- Knots of a row, and of a ring -/
theorem knots_line {w : World} {F : Nat → Prop} {gs n : Nat} {r : Bool} (hn : 2 ≤ n) (hn2 : n ≤ 300) (hg : RdG w F (some ⟨gs, 0, none⟩) (lineG n r)) {Ls : List (List Nat)} (hk : KnSeq n (via' (lineG n r)) [] Ls) :
    Calls Try.prog 11 #[.slice (some ⟨gs, 0, none⟩) n n] w fun e w' => ∃ (A : Option Addr) (c : Nat), e = .returned (.slice A Ls.length c) ∧ RdG w' (fun k => w.heap.size ≤ k) A (Ls.map il) ∧ Fr No w w' := by
  have h := knots_any w F (some ⟨gs, 0, none⟩) n 3 (lineG n r) hg (by rw [lineG_len]; omega) lineR_len (by omega) (by rw [lineG_len]; omega)
  rw [lineG_len] at h
  refine h.mono ?_
  rintro e w' ⟨L, A, c, rfl, hs, hr, _, _, hf⟩
  rw [lineG_len] at hs
  obtain rfl := hs.det hk
  exact ⟨A, c, rfl, hr, hf⟩

set_option maxRecDepth 100000 in
set_option maxHeartbeats 8000000 in
theorem knotsLong_walk (x : Int) (r : Bool) (W : World) (bx : -9223372036854775808 ≤ x ∧ x ≤ 9223372036854775807) :
    Calls Try.prog 6 #[.int .i64 x, .bool r] W (RetTrue W) := by
  obtain ⟨k, hk, hkl⟩ := umod x 290 (by omega) (by omega)
  rw [show ((290 : Nat) : Int) = 290 from rfl] at hk
  obtain ⟨n, hn⟩ : ∃ n, n = 2 + k := ⟨_, rfl⟩
  have hwn : wrap64 (2 + (k : Int)) = (n : Int) := by unfold wrap64; omega
  have hn2 : 2 ≤ n := by omega
  have hn3 : n ≤ 300 := by omega
  obtain ⟨n1, hn1⟩ : ∃ n1, n1 = n - 1 := ⟨_, rfl⟩
  have hwn1 : wrap64 ((n : Int) - 1) = (n1 : Int) := by unfold wrap64; omega
  have hsub : (n : Int) - 1 = (n1 : Int) := by omega
  have HN1 := Lib.hid hn1
  have hmk2 := fun W => run_make1 (P := Try.prog) elG zeroG rfl .i64 .i64 n (by omega) (by simp only [maxLen]; omega) W
  have HLV := Lib.hid (lives13 W)
  clear hn hkl hn1
  go_enter Try.func6, Try.ntmps6
  go_upto_region 5 with (go_at_call 9; (with_reducible refine HLV.out.mono ?_); rintro _ w1 ⟨rfl, hf1⟩; have HF1 := Lib.hid hf1; clear hf1)
  have HZ : Hid (LpG n w1.heap.size w1.heap.size 0 (w1.alloc (.cells (zrow n (.slice none 0 0)).toArray 26))) := Lib.hid ⟨_, by rw [lp_zero]; exact IRows.zero w1 n (by omega)⟩
  have HF2 : Hid (Fr No w1 (w1.alloc (.cells (zrow n (.slice none 0 0)).toArray 26))) := Lib.hid ((Fr.refl _ _).alloc _)
  generalize w1.alloc (.cells (zrow n (.slice none 0 0)).toArray 26) = w2 at *
  obtain ⟨gs, hgs⟩ : ∃ gs, gs = w1.heap.size := ⟨_, rfl⟩
  rw [← hgs] at HZ ⊢
  have HGS := Lib.hid hgs
  clear hgs hmk2
  go_upto_block 0 with (fail)
  simp only [hk, hwn]
  go_cut [5] (fun a5 wx => a5 = .slice (some ⟨gs, 0, none⟩) n n ∧ LpG n gs gs n1 wx ∧ Fr No w1 wx)
  case first =>
    go_wp2
    go_loopw [6] (fun iv wr => ∃ i : Nat, iv = .int .i64 (i : Int) ∧ i ≤ n1 ∧ LpG n gs gs i wr ∧ Fr No w1 wr) (fun iv _ => n1 - (intOf iv).toNat)
    case atStart => exact ⟨0, rfl, Nat.zero_le _, HZ.out, HF2.out⟩
    case round =>
      obtain ⟨i, rfl, hi, ⟨vs, hR⟩, hf⟩ := hrel
      have HR := Lib.hid hR
      have HF := Lib.hid hf
      by_cases hil : i < n1
      · have hilI : (i : Int) < (n1 : Int) := by omega
        have hin : i < n := by have := HN1.out; omega
        have hinI : (i : Int) < (n : Int) := by omega
        obtain ⟨A1, c1, hv1, hc1, _, _, _⟩ := hR.cell (i := i) (by rw [rows_length]; exact hin)
        obtain ⟨cur, hcur⟩ := hR.out.blk gs rfl
        have hz := hcur.frozen i
        have hgl := hcur.lt
        obtain ⟨i1, hi1⟩ : ∃ i1, i1 = i + 1 := ⟨_, rfl⟩
        have hwi : wrap64 ((i : Int) + 1) = (i1 : Int) := by unfold wrap64; omega
        have HI1 := Lib.hid hi1
        have HV1 := Lib.hid hv1
        clear hR hf hv1 hcur hi1
        go_wp2
        go_roundw
        case measure =>
          first
            | (show n1 - (intOf (Value.int .i64 (wrap64 ((i : Int) + 1)))).toNat < n1 - (intOf (Value.int .i64 (i : Int))).toNat; rw [hwi]; exact num_lt hil HI1.out)
            | (show n1 - (intOf (Value.int .i64 ((i : Int) + 1))).toNat < n1 - (intOf (Value.int .i64 (i : Int))).toNat; exact num_lt hil rfl)
        case rel =>
          have hput : LpG n gs gs i1 ((wr.setCell ⟨gs, i, none⟩ (.slice (some ⟨wr.heap.size, 0, none⟩) 3 3)).alloc (.cells #[.int .i64 (i1 : Int), .int .i64 (-1), .int .i64 (n : Int)] 3)) := by
            have ho : Own (wr.alloc (.cells #[.int .i64 (i1 : Int), .int .i64 (-1), .int .i64 (n : Int)] 3)) 3 1 (.slice (some ⟨wr.heap.size, 0, none⟩) 3 3) 3 (is_ [((i + 1 : Nat) : Int), -1, (n : Int)]) := by
              rw [HI1.out]
              exact ⟨rfl, .inr ⟨wr.heap.size, 3, _, rfl, Blk.new wr _ _, Nat.le_refl _, by simp [maxLen], Nat.le_refl _, rfl⟩⟩
            have hp := HR.out.put (v := .slice A1 ((rows (lpR n i) n)[i]'(by rw [rows_length]; exact hin)).length c1) (v' := .slice (some ⟨wr.heap.size, 0, none⟩) 3 3) (L' := [((i + 1 : Nat) : Int), -1, (n : Int)]) (w1 := wr.alloc (.cells #[.int .i64 (i1 : Int), .int .i64 (-1), .int .i64 (n : Int)] 3)) HV1.out (List.getElem?_eq_getElem (by rw [rows_length]; exact hin)) ((Fr.refl _ _).alloc _) ho (.inr ⟨_, rfl, Nat.le_refl _⟩) (by have h1 := HF.out.size; have h2 := HGS.out; omega) rfl
            rw [alloc_set _ _ _ _ _ hgl, lp_step (by have := HN1.out; omega)] at hp
            exact ⟨_, by rw [show i1 = i + 1 from HI1.out] at hp ⊢; exact hp⟩
          have hi1I : (i : Int) + 1 = (i1 : Int) := by have := HI1.out; omega
          refine ⟨i1, by first | rw [hwi] | (rw [HI1.out]; rfl), by rw [HI1.out]; exact hil, ?_, ((HF.out.setCell (p := ⟨gs, i, none⟩) (fun h => by have h2 := HGS.out; have h : gs < w1.heap.size := h; omega) _).alloc _)⟩
          first
            | exact hput
            | (rw [hi1I]; exact hput)
            | (rw [hwi]; exact hput)
      · have hilI : ¬ (i : Int) < (n1 : Int) := by omega
        have hie : i = n1 := by omega
        clear hR hf
        go_wp2
        go_meet
        case rel => exact ⟨rfl, ⟨vs, by rw [← hie]; exact HR.out⟩, HF.out⟩
  case rest =>
    obtain ⟨rfl, ⟨vs, hR⟩, hf3⟩ := hcut
    generalize wc = w3 at *
    have HF3 := Lib.hid (HF1.out.trans hf3)
    cases r with
    | true =>
      have hin : n1 < n := by have := HN1.out; omega
      have hinI : (n1 : Int) < (n : Int) := by omega
      obtain ⟨A1, c1, hv1, hc1, _, _, _⟩ := hR.cell (i := n1) (by rw [rows_length]; exact hin)
      obtain ⟨cur, hcur⟩ := hR.out.blk gs rfl
      have hz := hcur.frozen n1
      have hgl := hcur.lt
      have hR3 : ∃ vs, IRows gs ((w3.setCell ⟨gs, n1, none⟩ (.slice (some ⟨w3.heap.size, 0, none⟩) 1 1)).alloc (.cells #[.int .i64 0] 3)) gs vs (lineG n true) := by
        have ho : Own (w3.alloc (.cells #[.int .i64 0] 3)) 3 1 (.slice (some ⟨w3.heap.size, 0, none⟩) 1 1) 1 (is_ [0]) := ⟨rfl, .inr ⟨w3.heap.size, 1, _, rfl, Blk.new w3 _ _, Nat.le_refl _, by simp [maxLen], Nat.le_refl _, rfl⟩⟩
        have hp := hR.put (L' := [0]) hv1 (List.getElem?_eq_getElem (by rw [rows_length]; exact hin)) ((Fr.refl _ _).alloc _) ho (.inr ⟨_, rfl, Nat.le_refl _⟩) (by omega) rfl
        rw [alloc_set _ _ _ _ _ hgl] at hp
        have e1 := lp_ring hn2
        rw [← HN1.out] at e1
        rw [e1] at hp
        exact ⟨_, hp⟩
      have hF4 : Fr No w1 ((w3.setCell ⟨gs, n1, none⟩ (.slice (some ⟨w3.heap.size, 0, none⟩) 1 1)).alloc (.cells #[.int .i64 0] 3)) := (hf3.setCell (p := ⟨gs, n1, none⟩) (fun h => by have h2 := HGS.out; have h : gs < w1.heap.size := h; omega) _).alloc _
      have HR3 := Lib.hid hR3
      have HF4 := Lib.hid hF4
      clear hR hv1 hcur hR3 hF4
      go_upto_region 11 with (fail)
      generalize (w3.setCell ⟨gs, n1, none⟩ (.slice (some ⟨w3.heap.size, 0, none⟩) 1 1)).alloc (.cells #[.int .i64 0] 3) = w4 at *
      obtain ⟨vs4, hR4⟩ := HR3.out
      have HKN : Hid (Calls Try.prog 11 #[.slice (some ⟨gs, 0, none⟩) n n] w4 fun e w' => ∃ (ad ad2 : Addr) (c c2 : Nat), e = .returned (.slice (some ad) 1 c) ∧ w'.cell? ad = some (.slice (some ad2) n c2) ∧ w'.cell? ad2 = some (.int .i64 0) ∧ Fr No w4 w') := Lib.hid (by
        refine (knots_line hn2 hn3 hR4.rdG (kn_ring hn2)).mono ?_
        rintro e w' ⟨A5, c5, rfl, hr5, hf5⟩
        obtain ⟨ad, A', c', rfl, t1, t2, _⟩ := hr5.at_ 0 (by simp)
        have e0 : ∀ a : Addr, a.add 0 = a := fun a => by unfold Addr.add; rfl
        have hl : (il (List.range n)).length = n := by rw [il_len, List.length_range]
        have t1' : w'.cell? (ad.add 0) = some (.slice A' (il (List.range n)).length c') := t1
        have t2' : Rd w' (fun k => w4.heap.size ≤ k) 1 A' (il (List.range n)).length (is_ (il (List.range n))) := t2
        rw [e0, hl] at t1'
        rw [hl] at t2'
        obtain ⟨ad2, u, rfl, _, hu, hc⟩ := t2'.at_ (k := 0) (by omega)
        rw [e0] at hc
        have hu2 : (is_ (il (List.range n)))[0]? = some (.int .i64 0) := by
          obtain ⟨m, rfl⟩ : ∃ m, n = m + 1 := ⟨n - 1, by omega⟩
          rw [List.range_succ_eq_map]; rfl
        rw [hu2] at hu
        injection hu with hu
        subst hu
        exact ⟨ad, ad2, c5, c', rfl, t1', hc, hf5⟩)
      have hnpos : (0 : Int) < (n : Int) := by omega
      clear hR4 hf3
      go_wp2_with (go_at_call 11; (with_reducible refine HKN.out.mono ?_); rintro _ w5 ⟨ad, ad2, c5, c6, rfl, t1, t2, hf5⟩; have HF5 := Lib.hid hf5; clear hf5)
      go_ret
      exact ⟨rfl, ((HF1.out.trans HF4.out).trans HF5.out).belowNo⟩
    | false =>
      have hR2 := hR
      rw [HN1.out, lp_row hn2] at hR2
      have HKN := Lib.hid (knots_line hn2 hn3 hR2.rdG (kn_row hn2))
      have HRE : Hid (∀ w4, Fr No w3 w4 → Calls Try.prog 16 #[.slice (some ⟨gs, 0, none⟩) n n, .int .i64 0] w4 fun e w' => ∃ (A1 : Option Addr) (c1 : Nat), e = .returned (.slice A1 n1 c1) ∧ Fr No w4 w') := Lib.hid (fun w4 h4 => by
        have h := reach_any w4 _ (some ⟨gs, 0, none⟩) n (lineG n false) 0 (hR2.rdG.no h4) (by rw [lineG_len]; omega) (fun L hL => Nat.le_trans (lineR_len L hL) (by omega))
        rw [lineG_len] at h
        refine h.mono ?_
        rintro e w' ⟨L, p1, p2, v', rfl, p3, p4, p5⟩
        have hl := reach_len hn2 p1 p2
        obtain ⟨A1, c1, rfl, _⟩ := p3.form
        exact ⟨A1, c1, by rw [hl, HN1.out], fr_at_none p4⟩)
      have hle : ((List.range n).reverse.map fun i => [i]).length = n := by simp
      rw [hle, rowL_eq] at HKN
      clear hR hR2 hf3 hle
      go_upto_block 2 with (go_at_call 11; (with_reducible refine HKN.out.mono ?_); rintro _ w4 ⟨A4, c4, rfl, hr4, hf4⟩; have HR4 := Lib.hid hr4; have HF4 := Lib.hid hf4; clear hr4 hf4)
      go_cut [7] (fun a7 wx => a7 = .slice A4 n c4 ∧ w4 = wx)
      case first =>
        go_wp2
        go_loopw [8] (fun iv wr => ∃ i : Nat, iv = .int .i64 (i : Int) ∧ i ≤ n ∧ w4 = wr) (fun iv _ => n - (intOf iv).toNat)
        case atStart => exact ⟨0, rfl, Nat.zero_le _, rfl⟩
        case round =>
          obtain ⟨i, rfl, hi, rfl⟩ := hrel
          by_cases hil : i < n
          · have hilI : (i : Int) < (n : Int) := by omega
            obtain ⟨ad, A', c', rfl, t1, t2, _⟩ := HR4.out.at_ i (by unfold rowL; rw [rows_length]; exact hil)
            have hrow : (rowL n)[i]'(by unfold rowL; rw [rows_length]; exact hil) = [((n - 1 - i : Nat) : Int)] := by unfold rowL; rw [rows_getE]
            rw [hrow] at t1 t2
            have t1' : w4.cell? (ad.add i) = some (.slice A' 1 c') := t1
            obtain ⟨ad2, u, rfl, _, hu, hc⟩ := t2.at_ (k := 0) (by simp)
            have hu : some (Value.int .i64 ((n - 1 - i : Nat) : Int)) = some u := hu
            injection hu with hu
            subst hu
            obtain ⟨q, hq⟩ : ∃ q, q = n - 1 - i := ⟨_, rfl⟩
            rw [← hq] at hc
            have hc' : w4.cell? ad2 = some (.int .i64 (q : Int)) := by
              have e0 : ad2.add 0 = ad2 := by unfold Addr.add; rfl
              rw [e0] at hc; exact hc
            have hwq : wrap64 ((n1 : Int) - (i : Int)) = (q : Int) := by
              have := HN1.out
              unfold wrap64; omega
            have hsq : (n1 : Int) - (i : Int) = (q : Int) := by
              have := HN1.out
              omega
            obtain ⟨i1, hi1⟩ : ∃ i1, i1 = i + 1 := ⟨_, rfl⟩
            have hwi : wrap64 ((i : Int) + 1) = (i1 : Int) := by unfold wrap64; omega
            have HI1 := Lib.hid hi1
            clear t1 t2 hc hq hrow hi1
            go_wp2
            go_roundw
            case measure =>
              first
                | (show n - (intOf (Value.int .i64 (wrap64 ((i : Int) + 1)))).toNat < n - (intOf (Value.int .i64 (i : Int))).toNat; rw [hwi]; exact num_lt hil HI1.out)
                | (show n - (intOf (Value.int .i64 ((i : Int) + 1))).toNat < n - (intOf (Value.int .i64 (i : Int))).toNat; exact num_lt hil rfl)
            case rel => exact ⟨i1, by first | rw [hwi] | (rw [HI1.out]; rfl), by rw [HI1.out]; exact hil, by first | rfl | trivial⟩
          · have hilI : ¬ (i : Int) < (n : Int) := by omega
            go_wp2
            go_meet
            case rel => exact ⟨rfl, rfl⟩
      case rest =>
        obtain ⟨rfl, hw⟩ := hcut
        obtain rfl := hw
        go_wp2_with (go_at_call 16; (with_reducible refine (HRE.out _ HF4.out).mono ?_); rintro _ w5 ⟨A5, c5, rfl, f5⟩; have HF5 := Lib.hid f5; clear f5)
        go_ret
        exact ⟨rfl, ((HF3.out.trans HF4.out).trans HF5.out).belowNo⟩
end Go.Proofs.Ytcjofakhefpfdaa
