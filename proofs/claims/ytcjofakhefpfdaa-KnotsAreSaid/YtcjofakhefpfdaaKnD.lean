/- The document's table of who reaches whom: the walk. -/
import Derived.Test.YtcjofakhefpfdaaKnC
namespace Go.Proofs.Ytcjofakhefpfdaa
open Go.RowKit Go.My Go.Maps
set_option linter.unusedSimpArgs false
set_option linter.unusedVariables false
attribute [local go_sem ↓] Go.wp_at_zero Go.wp_at_succ

def D1 (w : World) (G : List (List Int)) (iv : Value) (wr : World) : Prop := ∃ (i : Nat) (vs : List Value), i ≤ G.length ∧ iv = .int .i64 i ∧ BRows w.heap.size wr w.heap.size vs (brows (rA G i) G.length) ∧ Fr No w wr
def D2 (w : World) (G : List (List Int)) (i : Nat) (jv : Value) (wr : World) : Prop := ∃ (j : Nat) (vs : List Value), j ≤ (gat G i).length ∧ jv = .int .i64 j ∧ BRows w.heap.size wr w.heap.size vs (brows (rB G i j) G.length) ∧ Fr No w wr
/-- handed back: the table -/
def RetW (w : World) (G : List (List Int)) (e : Ending) (w' : World) : Prop := ∃ (gs : Nat) (vs : List Value), e = .returned (.slice (some ⟨gs, 0, none⟩) G.length G.length) ∧ BRows w.heap.size w' gs vs (brows (fun a => marks (via (stp G) G.length a) G.length) G.length) ∧ Fr No w w'
theorem brows_own (w w1 : World) (n : Nat) (hn : n ≤ 1000000) : Own (w1.alloc (.cells (zrow n (.bool false)).toArray 4)) 4 1 (.slice (some ⟨w1.heap.size, 0, none⟩) n n) (marks (fun _ => false) n).length (bvs (marks (fun _ => false) n)) := by
  rw [marks_no, marks_len]
  exact ⟨by rw [zrow_length]; omega, .inr ⟨w1.heap.size, n, _, rfl, heap_alloc_new w1 _, Nat.le_refl _, by simp only [maxLen]; omega, by simp [zrow_length], by rw [Nat.mul_one]; exact List.take_of_length_le (by simp [zrow_length])⟩⟩
def E1 (w : World) (G : List (List Int)) (kv : Value) (wr : World) : Prop := ∃ (k : Nat) (vs : List Value), k ≤ G.length ∧ kv = .int .i64 k ∧ BRows w.heap.size wr w.heap.size vs (brows (fun a => marks (via (stp G) k a) G.length) G.length) ∧ Fr No w wr
def E2 (w : World) (G : List (List Int)) (k : Nat) (iv : Value) (wr : World) : Prop := ∃ (i : Nat) (vs : List Value), i ≤ G.length ∧ iv = .int .i64 i ∧ BRows w.heap.size wr w.heap.size vs (brows (rC G k i 0) G.length) ∧ Fr No w wr
def E3 (w : World) (G : List (List Int)) (k i : Nat) (jv : Value) (wr : World) : Prop := ∃ (j : Nat) (vs : List Value), j ≤ G.length ∧ jv = .int .i64 j ∧ BRows w.heap.size wr w.heap.size vs (brows (rC G k i j) G.length) ∧ Fr No w wr
/-- a cell of the table -/
theorem rC_row {B : Nat} {w : World} {gs : Nat} {vs : List Value} {G : List (List Int)} {k i j a b : Nat} (h : BRows B w gs vs (brows (rC G k i j) G.length)) (ha : a < G.length) (hb : b < G.length) :
    ∃ g c, vs[a]? = some (.slice (some ⟨g, 0, none⟩) G.length c) ∧ w.cell? ⟨gs, a, none⟩ = some (.slice (some ⟨g, 0, none⟩) G.length c) ∧ w.cell? ⟨g, b, none⟩ = some (.bool (if a < i ∨ a = i ∧ b < j then via (stp G) (k + 1) a b else via (stp G) k a b)) ∧ w.frozen? ⟨g, b, none⟩ = false ∧ G.length ≤ c ∧ c ≤ maxLen ∧ B ≤ g ∧
      ∀ v, BRows B (w.setCell ⟨g, b, none⟩ (.bool v)) gs vs ((brows (rC G k i j) G.length).set a ((rC G k i j a).set b v)) := by
  have hal : a < (brows (rC G k i j) G.length).length := by rw [brows_len]; exact ha
  have hrow : (brows (rC G k i j) G.length)[a] = rC G k i j a := brows_at _ _ _ _
  have hrl : (rC G k i j a).length = G.length := marks_len _ _
  have hbl : b < (brows (rC G k i j) G.length)[a].length := by rw [hrow, hrl]; exact hb
  obtain ⟨g, c, k1, k2, k3, k4, k5, k6⟩ := h.row hal hbl
  have hM := fun v => h.mark hal hbl k1 v
  have hg := h.new a _ g k1 rfl
  simp only [hrow] at hM k1 k2 k3 k5
  rw [hrl] at k1 k2 k5
  refine ⟨g, c, k1, k2, ?_, k4, k5, k6, hg, hM⟩
  rw [k3]
  unfold rC
  rw [marks_at]
set_option maxRecDepth 100000 in
set_option maxHeartbeats 2000000 in
theorem table_any (w : World) (F : Nat → Prop) (A : Option Addr) (c : Nat) (G : List (List Int)) (hg : RdG w F A G) (hn : G.length ≤ 1000) (hm : ∀ L ∈ G, L.length ≤ 100000) :
    Calls Try.prog 15 #[.slice A G.length c] w (RetW w G) := by
  have HG := Lib.hid hg
  have HM := Lib.hid (gat_len hm)
  have hmk := fun W => run_make1 (P := Try.prog) elGB zeroGB rfl .i64 .i64 G.length (by omega) (by simp only [maxLen]; omega) W
  have hmk2 := fun W => run_make1 (P := Try.prog) elBo zeroBo rfl .i64 .i64 G.length (by omega) (by simp only [maxLen]; omega) W
  have HZ : Hid (BRows w.heap.size (w.alloc (.cells (zrow G.length (.slice none 0 0)).toArray 30)) w.heap.size (zrow G.length (.slice none 0 0)) (brows (rA G 0) G.length)) := by
    rw [rA_zero]
    exact BRows.zero w G.length (by omega)
  clear hg hm
  go_enter Try.func15, Try.ntmps15
  go_wp2
  go_loopw [5] (fun iv wr => D1 w G iv wr) (fun iv _ => G.length - (intOf iv).toNat)
  case atStart => exact ⟨0, _, Nat.zero_le _, rfl, HZ.out, (Fr.refl _ _).alloc _⟩
  case round =>
    obtain ⟨i, vs, hi, rfl, hR, hfr⟩ := hrel
    by_cases hlt : i < G.length
    · obtain ⟨ad, A', c', rfl, hc0, hrow, hlc, hcm⟩ := HG.out.at_ i hlt
      rw [← gat_at hlt] at hc0 hrow hlc
      have hml := HM.out i
      obtain ⟨Av, cv, hv1, hcell, -, -, -⟩ := hR.cell (i := i) (by rw [brows_len]; exact hlt)
      obtain ⟨cur, hcur⟩ := hR.out.blk w.heap.size rfl
      have hfrz := hcur.frozen i
      have HPUT : Hid (∀ w2, w2 = (wr.alloc (.cells (zrow G.length (.bool false)).toArray 4)).setCell ⟨w.heap.size, i, none⟩ (.slice (some ⟨wr.heap.size, 0, none⟩) G.length G.length) → BRows w.heap.size w2 w.heap.size (vs.set i (.slice (some ⟨wr.heap.size, 0, none⟩) G.length G.length)) (brows (rB G i 0) G.length) ∧ Fr No w w2) := by
        rintro w2 rfl
        have := hR.put (w1 := wr.alloc (.cells (zrow G.length (.bool false)).toArray 4)) (v' := .slice (some ⟨wr.heap.size, 0, none⟩) G.length G.length) (L' := marks (fun _ => false) G.length) hv1 (List.getElem?_eq_getElem (by rw [brows_len]; exact hlt)) (((Fr.refl No wr).alloc _).mono fun _ _ h => h.elim) (brows_own w wr G.length (by omega)) (.inr ⟨wr.heap.size, rfl, Nat.le_refl _⟩) hfr.size rfl
        rw [rA_open] at this
        refine ⟨this, (hfr.alloc _).trans' (fr_set _ w.heap.size i _) fun k hk hlt => ?_⟩
        have : k = w.heap.size := hk
        omega
      have HROW : Hid (∀ W, Fr No w W → Rd W F 1 A' (gat G i).length (is_ (gat G i)) ∧ W.cell? (ad.add i) = some (.slice A' (gat G i).length c')) := fun W hW => ⟨hrow.fr (by decide) hW (fun _ _ _ h => h), hW.cell_some hc0 (fun h => h)⟩
      have hcellA : (wr.alloc (.cells (zrow G.length (.bool false)).toArray 4)).cell? ⟨w.heap.size, i, none⟩ = _ := ((Fr.refl No wr).alloc (.cells (zrow G.length (.bool false)).toArray 4)).cell_some hcell (fun h => h)
      have hfrzA : (wr.alloc (.cells (zrow G.length (.bool false)).toArray 4)).frozen? ⟨w.heap.size, i, none⟩ = false := (hcur.alloc _).frozen i
      clear hR hfr hrow hc0 hv1 hcell cur hcur hfrz
      go_wp2
      obtain ⟨hB0, hF0⟩ := HPUT.out _ rfl
      generalize (wr.alloc (.cells (zrow G.length (.bool false)).toArray 4)).setCell ⟨w.heap.size, i, none⟩ (.slice (some ⟨wr.heap.size, 0, none⟩) G.length G.length) = wo at *
      generalize vs.set i (.slice (some ⟨wr.heap.size, 0, none⟩) G.length G.length) = vs0 at *
      have HB0 := Lib.hid hB0
      have HF0 := Lib.hid hF0
      clear HPUT hcellA hfrzA hB0 hF0
      go_loopw [6] (fun jv wr => D2 w G i jv wr) (fun jv _ => (gat G i).length - (intOf jv).toNat)
      case atStart => exact ⟨0, vs0, Nat.zero_le _, rfl, HB0.out, HF0.out⟩
      case round =>
        obtain ⟨j, us, hj, rfl, hRj, hfj⟩ := hrel
        obtain ⟨hrd, hc⟩ := HROW.out wr hfj
        by_cases hlj : j < (gat G i).length
        · obtain ⟨ad2, u, rfl, _, hu, hx⟩ := hrd.at_ hlj
          rw [is_at _ j hlj] at hu
          injection hu with hu
          subst hu
          have hskip := fun h => rB_skip (G := G) (i := i) (j := j) hlj h
          have hmark := fun t h1 h2 => rB_mark (G := G) (i := i) (j := j) (t := t) hlj h1 h2
          have HRJ := Lib.hid hRj
          have HFJ := Lib.hid hfj
          clear hrd hfj
          generalize (gat G i)[j] = x at *
          by_cases h0 : 0 ≤ x
          · by_cases h1 : x < G.length
            · obtain ⟨t, rfl⟩ : ∃ t : Nat, x = (t : Int) := ⟨x.toNat, by omega⟩
              have htn : t < G.length := by omega
              have hil : i < (brows (rB G i j) G.length).length := by rw [brows_len]; exact hlt
              have hrow : (brows (rB G i j) G.length)[i] = rB G i j i := brows_at _ _ _ _
              have hrl : (rB G i j i).length = G.length := by
                unfold rB
                rw [if_neg (by omega), if_pos rfl, marks_len]
              obtain ⟨g, cg, k1, k2, k3, k4, k5, k6⟩ := hRj.row (i := i) (j := t) hil (by rw [hrow, hrl]; exact htn)
              have hM := hRj.mark (i := i) (j := t) hil (by rw [hrow, hrl]; exact htn) k1 true
              have hgB := hRj.new i _ g k1 rfl
              rw [hrow, hmark t rfl htn] at hM
              rw [hrow, hrl] at k1 k2 k5
              have HM2 := Lib.hid hM
              have HF2 : Hid (Fr No w (wr.setCell ⟨g, t, none⟩ (.bool true))) := HFJ.out.trans' (fr_set _ g t _) fun k hk hlt => by
                have : k = g := hk
                omega
              obtain ⟨b0, kb⟩ : ∃ b, wr.cell? ⟨g, t, none⟩ = some (.bool b) := ⟨_, k3⟩
              clear hskip hmark hRj hM k1 hrow hrl hil hgB k3 h0 h1
              go_wp2
              go_region_law (fail)
              all_goals
                go_wp2
                go_roundw
                case rel => exact ⟨j + 1, us, by omega, by go_num, HM2.out.no ((Fr.refl _ _).drew), HF2.out.drew⟩
                case measure => simp [intOf]; omega
            · have HSK := Lib.hid (hskip fun h => h1 h.2)
              clear hskip hmark hRj
              go_wp2
              go_roundw
              case rel => exact ⟨j + 1, us, by omega, by go_num, by rw [← HSK.out]; exact HRJ.out, HFJ.out⟩
              case measure => simp [intOf]; omega
          · have HSK := Lib.hid (hskip fun h => h0 h.1)
            clear hskip hmark hRj
            go_wp2
            go_roundw
            case rel => exact ⟨j + 1, us, by omega, by go_num, by rw [← HSK.out]; exact HRJ.out, HFJ.out⟩
            case measure => simp [intOf]; omega
        · obtain rfl : j = (gat G i).length := by omega
          rw [rB_next G i hlt] at hRj
          have HRJ := Lib.hid hRj
          have HFJ := Lib.hid hfj
          clear hRj hfj hrd
          go_wp2
          go_roundw
          case rel => exact ⟨i + 1, us, by omega, by go_num, HRJ.out, HFJ.out⟩
          case measure => simp [intOf]; omega
    · obtain rfl : i = G.length := by omega
      rw [rA_all] at hR
      have HR := Lib.hid hR
      have HFR := Lib.hid hfr
      clear hR hfr hmk hmk2 HZ
      go_wp2
      generalize wr = wa at *
      go_loopw [7] (fun kv wr => E1 w G kv wr) (fun kv _ => G.length - (intOf kv).toNat)
      case atStart => exact ⟨0, vs, Nat.zero_le _, rfl, HR.out, HFR.out⟩
      case round =>
        clear HR HFR
        obtain ⟨k, ks, hk, rfl, hR, hfr⟩ := hrel
        by_cases hkl : k < G.length
        · rw [← rC_zero] at hR
          have HR := Lib.hid hR
          have HFR := Lib.hid hfr
          clear hR hfr
          go_wp2
          generalize wr = wb at *
          go_loopw [8] (fun iv wr => E2 w G k iv wr) (fun iv _ => G.length - (intOf iv).toNat)
          case atStart => exact ⟨0, ks, Nat.zero_le _, rfl, HR.out, HFR.out⟩
          case round =>
            clear HR HFR
            obtain ⟨i, is, hi, rfl, hR, hfr⟩ := hrel
            by_cases hil : i < G.length
            · have HR := Lib.hid hR
              have HFR := Lib.hid hfr
              clear hR hfr
              go_wp2
              generalize wr = wc at *
              go_loopw [9] (fun jv wr => E3 w G k i jv wr) (fun jv _ => G.length - (intOf jv).toNat)
              case atStart => exact ⟨0, is, Nat.zero_le _, rfl, HR.out, HFR.out⟩
              case round =>
                clear HR HFR
                obtain ⟨j, js, hj, rfl, hR, hfr⟩ := hrel
                by_cases hjl : j < G.length
                · obtain ⟨g, c1, p1, p2, p3, -, p5, p6, -, -⟩ := rC_row hR hil hkl
                  rw [rC_cell _ _ _ _ _ _ (.inl rfl)] at p3
                  cases hb : via (stp G) k i k with
                  | false =>
                    rw [hb] at p3
                    rw [rC_stay j hb] at hR
                    have HR := Lib.hid hR
                    have HFR := Lib.hid hfr
                    clear hR hfr hb
                    go_wp2
                    go_roundw
                    case rel => exact ⟨i + 1, js, by omega, by go_num, HR.out, HFR.out⟩
                    case measure => simp [intOf]; omega
                  | true =>
                    rw [hb] at p3
                    obtain ⟨g', c1', q1, q2, q3, q4, -, -, hgB, hM⟩ := rC_row hR hil hjl
                    rw [p1] at q1
                    injection q1 with q1
                    injection q1 with q1 _ q1c
                    injection q1 with q1
                    injection q1 with q1
                    subst q1 q1c
                    rw [if_neg (by omega)] at q3
                    obtain ⟨g2, c2, -, r2, r3, -, r5, r6, -, -⟩ := rC_row hR hkl hjl
                    rw [rC_cell _ _ _ _ _ _ (.inr rfl)] at r3
                    have hmk3 := rC_mark (j := j) hb
                    have hM2 := hM (via (stp G) k i j || via (stp G) k k j)
                    rw [hmk3] at hM2
                    have hF2 : ∀ v : Bool, Fr No w (wr.setCell ⟨g, j, none⟩ (.bool v)) := fun v => hfr.trans' (fr_set _ g j _) fun t ht hlt => by
                      have : t = g := ht
                      omega
                    generalize via (stp G) k i j = b1 at *
                    generalize via (stp G) k k j = b2 at *
                    clear hM hmk3 hR hfr hb p1 q2 hgB
                    cases b1 with
                    | true =>
                      have HM2 := Lib.hid hM2
                      have HF2 := Lib.hid (hF2 true)
                      clear hM2 hF2 r2 r3
--A
                      go_wp2
                      refine wp_region_held_drew (S := fun W => W.cell? ⟨w.heap.size, i, none⟩ = some (.slice (some ⟨g, 0, none⟩) G.length c1) ∧ W.cell? ⟨g, j, none⟩ = some (.bool true)) (by kernel_rfl) ⟨p2, q3⟩ (fun hH0 => ?_)
                      refine wpAnyH_take (i := 0) (v := ?_) rfl (by kernel_rfl) (by kernel_rfl) (by kernel_rfl) (fun _ _ _ h => h) (Or.inl ⟨by rfl, ?_⟩) hH0 ?_
                      rotate_left
                      · (intro w hSw; (try dsimp only at hSw); obtain ⟨hs1, hs2⟩ := hSw; go_simp; try with_reducible rfl)
                      (try simp only [Act.put, List.getElem_toArray, List.getElem_cons_zero, List.getElem_cons_succ, List.setIfInBounds_toArray, List.set_cons_zero, List.set_cons_succ])
                      refine wpAnyH_take (i := 1) (v := ?_) rfl (by kernel_rfl) (by kernel_rfl) (by kernel_rfl) (fun _ _ _ h => h) (Or.inl ⟨by rfl, ?_⟩) hH0 ?_
                      rotate_left
                      · (intro w hSw; (try dsimp only at hSw); obtain ⟨hs1, hs2⟩ := hSw; go_simp; try with_reducible rfl)
                      (try simp only [Act.put, List.getElem_toArray, List.getElem_cons_zero, List.getElem_cons_succ, List.setIfInBounds_toArray, List.set_cons_zero, List.set_cons_succ])
                      refine wpAnyH_take (i := 2) (v := ?_) rfl (by kernel_rfl) (by kernel_rfl) (by kernel_rfl) (fun _ _ _ h => h) (Or.inl ⟨by rfl, ?_⟩) hH0 ?_
                      rotate_left
                      · (intro w hSw; (try dsimp only at hSw); obtain ⟨hs1, hs2⟩ := hSw; go_simp; try with_reducible rfl)
                      (try simp only [Act.put, List.getElem_toArray, List.getElem_cons_zero, List.getElem_cons_succ, List.setIfInBounds_toArray, List.set_cons_zero, List.set_cons_succ])
                      refine wpAnyH_take (i := 3) (v := ?_) rfl (by kernel_rfl) (by kernel_rfl) (by kernel_rfl) (fun _ _ _ h => h) (Or.inl ⟨by rfl, ?_⟩) hH0 ?_
                      rotate_left
                      · (intro w hSw; (try dsimp only at hSw); obtain ⟨hs1, hs2⟩ := hSw; go_simp; try with_reducible rfl)
                      (try simp only [Act.put, List.getElem_toArray, List.getElem_cons_zero, List.getElem_cons_succ, List.setIfInBounds_toArray, List.set_cons_zero, List.set_cons_succ])
                      refine wpAnyH_take (i := 4) (v := ?_) rfl (by kernel_rfl) (by kernel_rfl) (by kernel_rfl) (fun _ _ _ h => h) (Or.inl ⟨by rfl, ?_⟩) hH0 ?_
                      rotate_left
                      · (intro w hSw; (try dsimp only at hSw); obtain ⟨hs1, hs2⟩ := hSw; go_simp; try with_reducible rfl)
                      (try simp only [Act.put, List.getElem_toArray, List.getElem_cons_zero, List.getElem_cons_succ, List.setIfInBounds_toArray, List.set_cons_zero, List.set_cons_succ])
                      refine wpAnyH_take (i := 5) (v := ?_) rfl (by kernel_rfl) (by kernel_rfl) (by kernel_rfl) (fun _ _ _ h => h) (Or.inl ⟨by rfl, ?_⟩) hH0 ?_
                      rotate_left
                      · (intro w hSw; (try dsimp only at hSw); obtain ⟨hs1, hs2⟩ := hSw; go_simp; try with_reducible rfl)
                      (try simp only [Act.put, List.getElem_toArray, List.getElem_cons_zero, List.getElem_cons_succ, List.setIfInBounds_toArray, List.set_cons_zero, List.set_cons_succ])
                      refine wpAnyH_take (i := 6) (v := ?_) rfl (by kernel_rfl) (by kernel_rfl) (by kernel_rfl) (fun _ _ _ h => h) (Or.inl ⟨by rfl, ?_⟩) hH0 ?_
                      rotate_left
                      · (intro w hSw; (try dsimp only at hSw); obtain ⟨hs1, hs2⟩ := hSw; go_simp; try with_reducible rfl)
                      (try simp only [Act.put, List.getElem_toArray, List.getElem_cons_zero, List.getElem_cons_succ, List.setIfInBounds_toArray, List.set_cons_zero, List.set_cons_succ])
                      refine wpAnyH_take (i := 7) (v := ?_) rfl (by kernel_rfl) (by kernel_rfl) (by kernel_rfl) (fun _ _ _ h => h) (Or.inl ⟨by rfl, ?_⟩) hH0 ?_
                      rotate_left
                      · (intro w hSw; (try dsimp only at hSw); obtain ⟨hs1, hs2⟩ := hSw; go_simp; try with_reducible rfl)
                      (try simp only [Act.put, List.getElem_toArray, List.getElem_cons_zero, List.getElem_cons_succ, List.setIfInBounds_toArray, List.set_cons_zero, List.set_cons_succ])
                      refine wpAnyH_take (i := 8) (v := ?_) rfl (by kernel_rfl) (by kernel_rfl) (by kernel_rfl) (fun _ _ _ h => h) (Or.inl ⟨by rfl, ?_⟩) hH0 ?_
                      rotate_left
                      · (intro w hSw; (try dsimp only at hSw); obtain ⟨hs1, hs2⟩ := hSw; go_simp; try with_reducible rfl)
                      (try simp only [Act.put, List.getElem_toArray, List.getElem_cons_zero, List.getElem_cons_succ, List.setIfInBounds_toArray, List.set_cons_zero, List.set_cons_succ])
                      refine wpAnyH_take (i := 9) (v := ?_) rfl (by kernel_rfl) (by kernel_rfl) (by kernel_rfl) (fun _ _ _ h => h) (Or.inl ⟨by rfl, ?_⟩) hH0 ?_
                      rotate_left
                      · (intro w hSw; (try dsimp only at hSw); obtain ⟨hs1, hs2⟩ := hSw; go_simp; try with_reducible rfl)
                      (try simp only [Act.put, List.getElem_toArray, List.getElem_cons_zero, List.getElem_cons_succ, List.setIfInBounds_toArray, List.set_cons_zero, List.set_cons_succ])
                      refine wpAnyH_take (i := 10) (v := ?_) rfl (by kernel_rfl) (by kernel_rfl) (by kernel_rfl) (fun _ _ _ h => h) (Or.inl ⟨by rfl, ?_⟩) hH0 ?_
                      rotate_left
                      · (intro w hSw; (try dsimp only at hSw); obtain ⟨hs1, hs2⟩ := hSw; go_simp; try with_reducible rfl)
                      (try simp only [Act.put, List.getElem_toArray, List.getElem_cons_zero, List.getElem_cons_succ, List.setIfInBounds_toArray, List.set_cons_zero, List.set_cons_succ])
                      refine wpAnyH_take (i := 11) (v := ?_) rfl (by kernel_rfl) (by kernel_rfl) (by kernel_rfl) (fun _ _ _ h => h) (Or.inl ⟨by rfl, ?_⟩) hH0 ?_
                      rotate_left
                      · (intro w hSw; (try dsimp only at hSw); obtain ⟨hs1, hs2⟩ := hSw; go_simp; try with_reducible rfl)
                      (try simp only [Act.put, List.getElem_toArray, List.getElem_cons_zero, List.getElem_cons_succ, List.setIfInBounds_toArray, List.set_cons_zero, List.set_cons_succ])
                      refine wpAnyH_take (i := 12) (v := ?_) rfl (by kernel_rfl) (by kernel_rfl) (by kernel_rfl) (fun _ _ _ h => h) (Or.inl ⟨by rfl, ?_⟩) hH0 ?_
                      rotate_left
                      · (intro w hSw; (try dsimp only at hSw); obtain ⟨hs1, hs2⟩ := hSw; go_simp; try with_reducible rfl)
                      (try simp only [Act.put, List.getElem_toArray, List.getElem_cons_zero, List.getElem_cons_succ, List.setIfInBounds_toArray, List.set_cons_zero, List.set_cons_succ])
                      refine wpAnyH_take (i := 13) (v := undef) rfl (by kernel_rfl) (by kernel_rfl) (by kernel_rfl) (fun _ _ _ h => h) (Or.inr ⟨by rfl, rfl⟩) hH0 ?_
                      (try simp only [Act.put, List.getElem_toArray, List.getElem_cons_zero, List.getElem_cons_succ, List.setIfInBounds_toArray, List.set_cons_zero, List.set_cons_succ])
                      refine wpAnyH_take (i := 14) (v := undef) rfl (by kernel_rfl) (by kernel_rfl) (by kernel_rfl) (fun _ _ _ h => h) (Or.inr ⟨by rfl, rfl⟩) hH0 ?_
                      (try simp only [Act.put, List.getElem_toArray, List.getElem_cons_zero, List.getElem_cons_succ, List.setIfInBounds_toArray, List.set_cons_zero, List.set_cons_succ])
                      refine wpAnyH_take (i := 15) (v := undef) rfl (by kernel_rfl) (by kernel_rfl) (by kernel_rfl) (fun _ _ _ h => h) (Or.inr ⟨by rfl, rfl⟩) hH0 ?_
                      (try simp only [Act.put, List.getElem_toArray, List.getElem_cons_zero, List.getElem_cons_succ, List.setIfInBounds_toArray, List.set_cons_zero, List.set_cons_succ])
                      refine wpAnyH_take (i := 16) (v := undef) rfl (by kernel_rfl) (by kernel_rfl) (by kernel_rfl) (fun _ _ _ h => h) (Or.inr ⟨by rfl, rfl⟩) hH0 ?_
                      (try simp only [Act.put, List.getElem_toArray, List.getElem_cons_zero, List.getElem_cons_succ, List.setIfInBounds_toArray, List.set_cons_zero, List.set_cons_succ])
                      refine wpAnyH_take (i := 17) (v := undef) rfl (by kernel_rfl) (by kernel_rfl) (by kernel_rfl) (fun _ _ _ h => h) (Or.inr ⟨by rfl, rfl⟩) hH0 ?_
                      (try simp only [Act.put, List.getElem_toArray, List.getElem_cons_zero, List.getElem_cons_succ, List.setIfInBounds_toArray, List.set_cons_zero, List.set_cons_succ])
                      refine wpAnyH_take (i := 18) (v := undef) rfl (by kernel_rfl) (by kernel_rfl) (by kernel_rfl) (fun _ _ _ h => h) (Or.inr ⟨by rfl, rfl⟩) hH0 ?_
                      (try simp only [Act.put, List.getElem_toArray, List.getElem_cons_zero, List.getElem_cons_succ, List.setIfInBounds_toArray, List.set_cons_zero, List.set_cons_succ])
                      refine wpAnyH_take (i := 19) (v := undef) rfl (by kernel_rfl) (by kernel_rfl) (by kernel_rfl) (fun _ _ _ h => h) (Or.inr ⟨by rfl, rfl⟩) hH0 ?_
                      (try simp only [Act.put, List.getElem_toArray, List.getElem_cons_zero, List.getElem_cons_succ, List.setIfInBounds_toArray, List.set_cons_zero, List.set_cons_succ])
                      refine wpAnyH_take (i := 20) (v := ?_) rfl (by kernel_rfl) (by kernel_rfl) (by kernel_rfl) (fun _ _ _ h => h) (Or.inl ⟨by rfl, ?_⟩) hH0 ?_
                      rotate_left
                      · (intro w hSw; (try dsimp only at hSw); obtain ⟨hs1, hs2⟩ := hSw; go_simp; try with_reducible rfl)
                      (try simp only [Act.put, List.getElem_toArray, List.getElem_cons_zero, List.getElem_cons_succ, List.setIfInBounds_toArray, List.set_cons_zero, List.set_cons_succ])
                      refine wpAnyH_take (i := 21) (v := ?_) rfl (by kernel_rfl) (by kernel_rfl) (by kernel_rfl) (fun _ _ _ h => h) (Or.inl ⟨by rfl, ?_⟩) hH0 ?_
                      rotate_left
                      · (intro w hSw; (try dsimp only at hSw); obtain ⟨hs1, hs2⟩ := hSw; go_simp; try with_reducible rfl)
                      (try simp only [Act.put, List.getElem_toArray, List.getElem_cons_zero, List.getElem_cons_succ, List.setIfInBounds_toArray, List.set_cons_zero, List.set_cons_succ])
                      refine wpAnyH_ready (rs := [22]) (by kernel_rfl) (by simp) ?_
                      refine AllReadyH.cons rfl (fun K hK => ?_) AllReadyH.nil
                      go_simp
                      refine hK _ _ ⟨?_, ?_⟩ (fun hH1 => ?_)
                      · exact (World.cell?_setCell_other _ _ _ _ (fun e => by rw [e] at q3; exact absurd (q3.symm.trans p2) (by simp))).trans p2
                      · exact World.cell?_setCell_same _ _ _ q3
                      clear hK K
                      (try simp only [Act.put, List.getElem_toArray, List.getElem_cons_zero, List.getElem_cons_succ, List.setIfInBounds_toArray, List.set_cons_zero, List.set_cons_succ])
                      refine wpAnyH_done (by kernel_rfl) ?_ _
                      go_wp2
                      go_roundw
                      case rel => exact ⟨j + 1, js, by omega, by go_num, HM2.out.no ((Fr.refl _ _).drew), HF2.out.drew⟩
                      case measure => simp [intOf]; omega
--B
                    | false =>
                      cases b2 with
                      | true =>
                        have HM2 := Lib.hid hM2
                        have HF2 := Lib.hid (hF2 true)
                        clear hM2 hF2
                        go_wp2
                        go_region_law (fail)
                        all_goals
                          go_wp2
                          go_roundw
                          case rel => exact ⟨j + 1, js, by omega, by go_num, HM2.out.no ((Fr.refl _ _).drew), HF2.out.drew⟩
                          case measure => simp [intOf]; omega
                      | false =>
                        have HM2 := Lib.hid hM2
                        have HF2 := Lib.hid (hF2 false)
                        clear hM2 hF2
                        go_wp2
                        go_region_law (fail)
                        all_goals
                          go_wp2
                          go_roundw
                          case rel => exact ⟨j + 1, js, by omega, by go_num, HM2.out.no ((Fr.refl _ _).drew), HF2.out.drew⟩
                          case measure => simp [intOf]; omega
                · obtain rfl : j = G.length := by omega
                  rw [rC_next] at hR
                  have HR := Lib.hid hR
                  have HFR := Lib.hid hfr
                  clear hR hfr
                  go_wp2
                  go_roundw
                  case rel => exact ⟨i + 1, js, by omega, by go_num, HR.out, HFR.out⟩
                  case measure => simp [intOf]; omega
            · obtain rfl : i = G.length := by omega
              rw [rC_end] at hR
              have HR := Lib.hid hR
              have HFR := Lib.hid hfr
              clear hR hfr
              go_wp2
              go_roundw
              case rel => exact ⟨k + 1, is, by omega, by go_num, HR.out, HFR.out⟩
              case measure => simp [intOf]; omega
        · obtain rfl : k = G.length := by omega
          have HR := Lib.hid hR
          have HFR := Lib.hid hfr
          clear hR hfr
          go_wp2
          go_ret
          exact ⟨w.heap.size, ks, rfl, HR.out, HFR.out⟩
end Go.Proofs.Ytcjofakhefpfdaa
