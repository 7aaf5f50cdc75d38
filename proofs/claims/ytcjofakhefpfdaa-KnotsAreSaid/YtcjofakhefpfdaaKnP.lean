/- The graph without what is no place; who uses whom. -/
import Derived.Test.YtcjofakhefpfdaaKnG
import Derived.Test.YtcjofakhefpfdaaKnM1
namespace Go.Proofs.Ytcjofakhefpfdaa
open Go.RowKit Go.My Go.Maps
set_option linter.unusedSimpArgs false
set_option linter.unusedVariables false
attribute [local go_sem ↓] Go.wp_at_zero Go.wp_at_succ

/-! ### rows by their numbers -/
def rows (f : Nat → List Int) (n : Nat) : List (List Int) := (List.range n).map f
theorem rows_length (f : Nat → List Int) (n : Nat) : (rows f n).length = n := by unfold rows; simp
theorem rows_get (f : Nat → List Int) (n k : Nat) (h : k < n) : (rows f n)[k]? = some (f k) := by unfold rows; simp [h]
theorem rows_getE (f : Nat → List Int) (n k : Nat) (h : k < (rows f n).length) : (rows f n)[k] = f k := by
  have h2 := rows_get f n k (by rwa [rows_length] at h)
  rw [List.getElem?_eq_getElem h] at h2
  injection h2
theorem rows_congr {f g : Nat → List Int} {n : Nat} (h : ∀ k, k < n → f k = g k) : rows f n = rows g n := by
  unfold rows
  exact List.map_congr_left fun k hk => h k (by simpa using hk)
theorem rows_set (f : Nat → List Int) (n i : Nat) (x : List Int) : (rows f n).set i x = rows (fun k => if k = i then x else f k) n := by
  apply List.ext_getElem?
  intro k
  by_cases hk : k < n
  · by_cases e : k = i
    · subst e
      rw [List.getElem?_set_self (by rw [rows_length]; exact hk), rows_get _ _ _ hk, if_pos rfl]
    · rw [List.getElem?_set_ne (fun e2 => e e2.symm), rows_get _ _ _ hk, rows_get _ _ _ hk, if_neg e]
  · rw [List.getElem?_eq_none (by rw [List.length_set, rows_length]; omega), List.getElem?_eq_none (by rw [rows_length]; omega)]
theorem rows_nil (n : Nat) : rows (fun _ => []) n = List.replicate n [] := by
  apply List.ext_getElem?
  intro k
  by_cases hk : k < n
  · rw [rows_get _ _ _ hk, List.getElem?_replicate, if_pos hk]
  · rw [List.getElem?_eq_none (by rw [rows_length]; omega), List.getElem?_replicate, if_neg hk]

def inR (n : Nat) (x : Int) : Bool := decide (0 ≤ x ∧ x < n)
def gat (G : List (List Int)) (k : Nat) : List Int := G.getD k []
theorem gat_at {G : List (List Int)} {k : Nat} (h : k < G.length) : gat G k = G[k] := by unfold gat; simp [h]
/-- the graph's places alone -/
def propG (G : List (List Int)) : List (List Int) := rows (fun k => (gat G k).filter (inR G.length)) G.length
def partP (G : List (List Int)) (i j k : Nat) : List Int := if k < i then (gat G k).filter (inR G.length) else if k = i then ((gat G k).take j).filter (inR G.length) else []
theorem partP_len (G : List (List Int)) (i j k : Nat) : (partP G i j k).length ≤ (gat G k).length := by
  unfold partP
  split
  · exact List.length_filter_le _ _
  · split
    · exact Nat.le_trans (List.length_filter_le _ _) (by rw [List.length_take]; omega)
    · simp
theorem partP_zero (G : List (List Int)) : rows (partP G 0 0) G.length = List.replicate G.length [] := by
  rw [← rows_nil]
  refine rows_congr fun k _ => ?_
  unfold partP
  rw [if_neg (by omega)]
  split <;> simp
theorem partP_push {G : List (List Int)} {i j : Nat} (hj : j < (gat G i).length) (h : inR G.length (gat G i)[j] = true) : (rows (partP G i j) G.length).set i (partP G i j i ++ [(gat G i)[j]]) = rows (partP G i (j + 1)) G.length := by
  rw [rows_set]
  refine rows_congr fun k _ => ?_
  unfold partP
  by_cases e : k = i
  · subst e
    rw [if_pos rfl, if_neg (by omega), if_pos rfl, if_neg (by omega), if_pos rfl, List.take_succ_eq_append_getElem hj, List.filter_append, List.filter_cons, if_pos h, List.filter_nil]
  · rw [if_neg e, if_neg e, if_neg e]
theorem partP_skip {G : List (List Int)} {i j : Nat} (hj : j < (gat G i).length) (h : inR G.length (gat G i)[j] = false) : rows (partP G i j) G.length = rows (partP G i (j + 1)) G.length := by
  refine rows_congr fun k _ => ?_
  unfold partP
  by_cases e : k = i
  · subst e
    rw [if_neg (by omega), if_pos rfl, if_neg (by omega), if_pos rfl, List.take_succ_eq_append_getElem hj, List.filter_append, List.filter_cons, if_neg (by rw [h]; simp), List.filter_nil, List.append_nil]
  · rw [if_neg e, if_neg e]
theorem partP_next (G : List (List Int)) (i : Nat) : rows (partP G i (gat G i).length) G.length = rows (partP G (i + 1) 0) G.length := by
  refine rows_congr fun k _ => ?_
  unfold partP
  by_cases h : k < i
  · rw [if_pos h, if_pos (by omega)]
  · rw [if_neg h]
    by_cases e : k = i
    · subst e
      rw [if_pos rfl, if_pos (by omega), List.take_length]
    · rw [if_neg e, if_neg (by omega)]
      split <;> simp
theorem partP_all (G : List (List Int)) : rows (partP G G.length 0) G.length = propG G := by
  refine rows_congr fun k hk => ?_
  unfold partP
  rw [if_pos hk]
def PO (w : World) (G : List (List Int)) (iv : Value) (wr : World) : Prop := ∃ (i : Nat) (vs : List Value), i ≤ G.length ∧ iv = .int .i64 i ∧ IRows w.heap.size wr w.heap.size vs (rows (partP G i 0) G.length) ∧ Fr No w wr
def PI (w : World) (G : List (List Int)) (i : Nat) (jv : Value) (wr : World) : Prop := ∃ (j : Nat) (vs : List Value), j ≤ (gat G i).length ∧ jv = .int .i64 j ∧ IRows w.heap.size wr w.heap.size vs (rows (partP G i j) G.length) ∧ Fr No w wr
/-- handed back: rows of the call's own -/
def RetG (w : World) (G : List (List Int)) (e : Ending) (w' : World) : Prop := ∃ (gs : Nat) (vs : List Value), e = .returned (.slice (some ⟨gs, 0, none⟩) G.length G.length) ∧ IRows w.heap.size w' gs vs G ∧ Fr No w w'
set_option maxRecDepth 100000 in
set_option maxHeartbeats 2000000 in
theorem proper_any (w : World) (F : Nat → Prop) (A : Option Addr) (c : Nat) (G : List (List Int)) (hg : RdG w F A G) (hn : G.length ≤ 100000) (hm : ∀ L ∈ G, L.length ≤ 100000) :
    Calls Try.prog 20 #[.slice A G.length c] w (RetG w (propG G)) := by
  have HG := Lib.hid hg
  have HM : Hid (∀ k, (gat G k).length ≤ 100000) := fun k => by
    unfold gat
    by_cases hk : k < G.length
    · rw [List.getD_eq_getElem?_getD, List.getElem?_eq_getElem hk]
      exact hm _ (List.getElem_mem hk)
    · rw [List.getD_eq_getElem?_getD, List.getElem?_eq_none (by omega)]
      simp
  have hmk := fun W => run_make1 (P := Try.prog) elG zeroG rfl .i64 .i64 G.length (by omega) (by simp only [maxLen]; omega) W
  have HZ : Hid (IRows w.heap.size (w.alloc (.cells (zrow G.length (.slice none 0 0)).toArray 26)) w.heap.size (zrow G.length (.slice none 0 0)) (rows (partP G 0 0) G.length)) := by
    rw [partP_zero]
    exact IRows.zero w G.length (by omega)
  clear hg hm
  go_enter Try.func20, Try.ntmps20
  go_wp2
  go_loopw [13] (fun iv wr => PO w G iv wr) (fun iv _ => G.length - (intOf iv).toNat)
  case atStart => exact ⟨0, _, Nat.zero_le _, rfl, HZ.out, (Fr.refl _ _).alloc _⟩
  case round =>
    obtain ⟨i, vs, hi, rfl, hR, hfr⟩ := hrel
    by_cases hlt : i < G.length
    · obtain ⟨ad, A', c', rfl, hc0, hrow, hlc, hcm⟩ := HG.out.at_ i hlt
      have hc := hfr.cell_some hc0 (fun h => h)
      rw [← gat_at hlt] at hc hc0 hrow hlc
      have HR := Lib.hid hR
      have HFR := Lib.hid hfr
      have HROW : Hid (∀ W, Fr No w W → Rd W F 1 A' (gat G i).length (is_ (gat G i))) := fun W hW => hrow.fr (by decide) hW (fun _ _ _ h => h)
      have hml := HM.out i
      clear hR hfr hrow hc0
      have HGI : Hid (gat G i = gat G i) := rfl
      go_wp2
      generalize wr = wo at *
      go_loopw [20] (fun jv wr => PI w G i jv wr) (fun jv _ => (gat G i).length - (intOf jv).toNat)
      case atStart => exact ⟨0, vs, Nat.zero_le _, rfl, HR.out, HFR.out⟩
      case round =>
        obtain ⟨j, us, hj, rfl, hRj, hfj⟩ := hrel
        by_cases hlj : j < (gat G i).length
        · obtain ⟨ad2, u, rfl, _, hu, hx⟩ := (HROW.out wr hfj).at_ hlj
          rw [is_at _ j hlj] at hu
          injection hu with hu
          subst hu
          obtain ⟨A1, c1, hv1, hcell, hown, hlc1, hcm1⟩ := hRj.cell (i := i) (by rw [rows_length]; exact hlt)
          rw [rows_getE] at hv1 hcell hown hlc1
          have hpl := partP_len G i j i
          have HFJ := Lib.hid hfj
          have HRJ := Lib.hid hRj
          have hin := fun h => partP_push (G := G) (i := i) (j := j) hlj h
          have hout := fun h => partP_skip (G := G) (i := i) (j := j) hlj h
          generalize (gat G i)[j] = x at *
          by_cases hb : inR G.length x = true
          · have HPU := Lib.hid (hin hb)
            have hb2 : 0 ≤ x ∧ x < G.length := by unfold inR at hb; exact of_decide_eq_true hb
            obtain ⟨hb3, hb4⟩ := hb2
            obtain ⟨cur, hcur⟩ := hRj.out.blk w.heap.size rfl
            have hrow : (rows (partP G i j) G.length)[i]? = some (partP G i j i) := rows_get _ _ _ hlt
            have HV1 := Lib.hid hv1
            have HRW := Lib.hid hrow
            have HOW := Lib.hid hown
            have HCUR := Lib.hid hcur
            clear hin hout hb hRj hfj hv1 hrow hcur
            generalize hPL : partP G i j i = L at *
            have hLl : (L.length : Int) ≤ 100000 := by omega
            go_wp2_with (at_builtin; refine wpList_app _ rfl (.tmp 37) (.tmp 39) 26 26 rfl elI (HOW.out.alloc (.cells #[.int .i64 x] 3)) rfl (Src.of_new (cs := #[.int .i64 x]) (t := 3) wr.heap.size (heap_alloc_new wr _) Try.underlying26 rfl (by simp [Value.oneCell'])) rfl (by simp only [maxLen]; omega) (by omega) ?_; intro v3 w3 hown3 hfr3 hnew3; obtain ⟨A3, c3, rfl, -, -⟩ := hown3.form; have hne := HOW.out.ne_ HCUR.out (by decide); have hcu := (HCUR.out.alloc (.cells #[.int .i64 x] 3)).fr hfr3 hne; have k1 := hcu.frozen i; have kc := hfr3.cell_some (((Fr.refl No wr).alloc (.cells #[.int .i64 x] 3)).cell_some hcell (fun h => h)) hne)
            have hput := (HRJ.out.no ((Fr.refl No wr).alloc (.cells #[.int .i64 x] 3))).put (L' := L ++ [x]) HV1.out HRW.out hfr3 (by rw [List.length_append, is_append]; exact hown3) (hnew3.imp id (fun e => ⟨_, e, Nat.le_refl _⟩)) (by have := HFJ.out.size; simp; omega) rfl
            rw [HPU.out] at hput
            have HPT := Lib.hid hput
            have HF3 : Hid (Fr No w (w3.setCell ⟨w.heap.size, i, none⟩ (.slice A3 (L.length + 1) c3))) := ((HFJ.out.alloc (.cells #[.int .i64 x] 3)).trans' hfr3 (fun k hk hlt => by
              have h1 := HRJ.out.new i _ k HV1.out hk
              omega)).trans' (fr_set _ w.heap.size i _) (fun k hk hlt => by
              have : k = w.heap.size := hk
              omega)
            clear hput hown3 hfr3 hnew3
            go_wp2
            go_roundw
            case rel => exact ⟨j + 1, _, by omega, by go_num, HPT.out, HF3.out⟩
            case measure => simp [intOf]; omega
          · have hb1 : inR G.length x = false := by simpa using hb
            have HSK := Lib.hid (hout hb1)
            have hb2 : ¬ (0 ≤ x ∧ x < G.length) := by unfold inR at hb1; exact of_decide_eq_false hb1
            clear hin hout hb hb1 hRj hfj
            by_cases h0 : 0 ≤ x
            · have h1 : ¬ (x < G.length) := fun h => hb2 ⟨h0, h⟩
              clear hb2
              go_wp2
              go_roundw
              case rel => exact ⟨j + 1, us, by omega, by go_num, by rw [← HSK.out]; exact HRJ.out, HFJ.out⟩
              case measure => simp [intOf]; omega
            · clear hb2
              go_wp2
              go_roundw
              case rel => exact ⟨j + 1, us, by omega, by go_num, by rw [← HSK.out]; exact HRJ.out, HFJ.out⟩
              case measure => simp [intOf]; omega
        · obtain rfl : j = (gat G i).length := by omega
          rw [partP_next] at hRj
          have HRJ := Lib.hid hRj
          have HFJ := Lib.hid hfj
          clear hRj hfj
          go_wp2
          go_roundw
          case rel => exact ⟨i + 1, us, by omega, by go_num, HRJ.out, HFJ.out⟩
          case measure => simp [intOf]; omega
    · obtain rfl : i = G.length := by omega
      rw [partP_all] at hR
      have HR := Lib.hid hR
      have HFR := Lib.hid hfr
      have hlen : (propG G).length = G.length := rows_length _ _
      clear hR hfr
      go_wp2
      go_ret
      exact ⟨w.heap.size, vs, by rw [hlen]; rfl, HR.out, HFR.out⟩
end Go.Proofs.Ytcjofakhefpfdaa
