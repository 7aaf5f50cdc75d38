/- Who uses whom: the graph turned round. -/
import Derived.Test.YtcjofakhefpfdaaKnP
namespace Go.Proofs.Ytcjofakhefpfdaa
open Go.RowKit Go.My Go.Maps
set_option linter.unusedSimpArgs false
set_option linter.unusedVariables false
attribute [local go_sem ↓] Go.wp_at_zero Go.wp_at_succ

def usA (P : List (List Int)) (a : Nat) (L : List Int) (b : Nat) : List Int := (L.filter fun x => x == (b : Int)).map fun _ => (a : Int)
def usF (P : List (List Int)) (i j b : Nat) : List Int := ((List.range i).flatMap fun a => usA P a (gat P a) b) ++ usA P i ((gat P i).take j) b
/-- those that use each place -/
def usersG (P : List (List Int)) : List (List Int) := rows (fun b => (List.range P.length).flatMap fun a => usA P a (gat P a) b) P.length
theorem usF_zero (P : List (List Int)) : rows (usF P 0 0) P.length = List.replicate P.length [] := by
  rw [← rows_nil]
  refine rows_congr fun k _ => ?_
  unfold usF usA
  simp
theorem usA_append (P : List (List Int)) (a : Nat) (L M : List Int) (b : Nat) : usA P a (L ++ M) b = usA P a L b ++ usA P a M b := by
  unfold usA
  rw [List.filter_append, List.map_append]
theorem usF_push {P : List (List Int)} {i j k : Nat} (hj : j < (gat P i).length) (hk : (gat P i)[j] = (k : Int)) : (rows (usF P i j) P.length).set k (usF P i j k ++ [(i : Int)]) = rows (usF P i (j + 1)) P.length := by
  rw [rows_set]
  refine rows_congr fun b _ => ?_
  unfold usF
  rw [List.take_succ_eq_append_getElem hj, usA_append, hk]
  by_cases e : b = k
  · subst e
    rw [if_pos rfl, List.append_assoc]
    unfold usA
    simp
  · rw [if_neg e]
    unfold usA
    have : ((k : Int) == (b : Int)) = false := beq_eq_false_iff_ne.2 (by omega)
    simp [this]
theorem usF_next (P : List (List Int)) (i : Nat) : rows (usF P i (gat P i).length) P.length = rows (usF P (i + 1) 0) P.length := by
  refine rows_congr fun b _ => ?_
  unfold usF
  rw [List.take_length, List.range_succ, List.flatMap_append]
  unfold usA
  simp
theorem usF_all (P : List (List Int)) : rows (usF P P.length 0) P.length = usersG P := by
  refine rows_congr fun b _ => ?_
  unfold usF usA
  simp
theorem usA_len (P : List (List Int)) (a : Nat) (L : List Int) (b : Nat) : (usA P a L b).length ≤ L.length := by
  unfold usA
  rw [List.length_map]
  exact List.length_filter_le _ _
theorem usF_len (P : List (List Int)) (M : Nat) (hM : ∀ k, (gat P k).length ≤ M) (i j b : Nat) : (usF P i j b).length ≤ (i + 1) * M := by
  have h1 : ∀ i, ((List.range i).flatMap fun a => usA P a (gat P a) b).length ≤ i * M := by
    intro i
    induction i with
    | zero => simp
    | succ i ih =>
      rw [List.range_succ, List.flatMap_append, List.length_append]
      have h2 := usA_len P i (gat P i) b
      have h3 := hM i
      have h4 : (List.flatMap (fun a => usA P a (gat P a) b) [i]).length ≤ M := by simp; omega
      rw [Nat.succ_mul]
      omega
  unfold usF
  rw [List.length_append, Nat.succ_mul]
  have h2 := usA_len P i ((gat P i).take j) b
  have h3 := hM i
  have h4 : ((gat P i).take j).length ≤ (gat P i).length := by rw [List.length_take]; omega
  have := h1 i
  omega
def UO (w : World) (G : List (List Int)) (iv : Value) (wr : World) : Prop := ∃ (i : Nat) (vs : List Value), i ≤ G.length ∧ iv = .int .i64 i ∧ IRows w.heap.size wr w.heap.size vs (rows (usF G i 0) G.length) ∧ Fr No w wr
def UI (w : World) (G : List (List Int)) (i : Nat) (jv : Value) (wr : World) : Prop := ∃ (j : Nat) (vs : List Value), j ≤ (gat G i).length ∧ jv = .int .i64 j ∧ IRows w.heap.size wr w.heap.size vs (rows (usF G i j) G.length) ∧ Fr No w wr
set_option maxRecDepth 100000 in
set_option maxHeartbeats 2000000 in
theorem users_any (w : World) (F : Nat → Prop) (A : Option Addr) (c : Nat) (G : List (List Int)) (hg : RdG w F A G) (hn : G.length ≤ 1000) (hm : ∀ L ∈ G, L.length ≤ 10000) (hp : ∀ L ∈ G, ∀ x ∈ L, 0 ≤ x ∧ x < G.length) :
    Calls Try.prog 24 #[.slice A G.length c] w (RetG w (usersG G)) := by
  have HG := Lib.hid hg
  have HM : Hid (∀ k, (gat G k).length ≤ 10000) := fun k => by
    unfold gat
    by_cases hk : k < G.length
    · rw [List.getD_eq_getElem?_getD, List.getElem?_eq_getElem hk]
      exact hm _ (List.getElem_mem hk)
    · rw [List.getD_eq_getElem?_getD, List.getElem?_eq_none (by omega)]
      simp
  have hmk := fun W => run_make1 (P := Try.prog) elG zeroG rfl .i64 .i64 G.length (by omega) (by simp only [maxLen]; omega) W
  have HZ : Hid (IRows w.heap.size (w.alloc (.cells (zrow G.length (.slice none 0 0)).toArray 26)) w.heap.size (zrow G.length (.slice none 0 0)) (rows (usF G 0 0) G.length)) := by
    rw [usF_zero]
    exact IRows.zero w G.length (by omega)
  have HP : Hid (∀ i j (h : j < (gat G i).length), ∃ k : Nat, (gat G i)[j] = (k : Int) ∧ k < G.length) := fun i j h => by
    by_cases hi : i < G.length
    · have h2 := hp (gat G i) (by rw [gat_at hi]; exact List.getElem_mem hi) _ (List.getElem_mem h)
      exact ⟨(gat G i)[j].toNat, by omega, by omega⟩
    · unfold gat at h
      rw [List.getD_eq_getElem?_getD, List.getElem?_eq_none (by omega)] at h
      simp at h
  clear hg hm hp
  go_enter Try.func24, Try.ntmps24
  go_wp2
  go_loopw [13] (fun iv wr => UO w G iv wr) (fun iv _ => G.length - (intOf iv).toNat)
  case atStart => exact ⟨0, _, Nat.zero_le _, rfl, HZ.out, (Fr.refl _ _).alloc _⟩
  case round =>
    obtain ⟨i, vs, hi, rfl, hR, hfr⟩ := hrel
    by_cases hlt : i < G.length
    · obtain ⟨ad, A', c', rfl, hc0, hrow, hlc, hcm⟩ := HG.out.at_ i hlt
      have hc := hfr.cell_some hc0 (fun h => h)
      rw [← gat_at hlt] at hc hc0 hrow hlc
      have HR := Lib.hid hR
      have HFR := Lib.hid hfr
      have HROW : Hid (∀ W, Fr No w W → Rd W F 1 A' (gat G i).length (is_ (gat G i))) := fun W hW => hrow.fr (by decide) hW (fun _ _ _ h => h)
      have hml := HM.out i
      clear hR hfr hrow hc0
      have HGI : Hid (gat G i = gat G i) := rfl
      go_wp2
      generalize wr = wo at *
      go_loopw [20] (fun jv wr => UI w G i jv wr) (fun jv _ => (gat G i).length - (intOf jv).toNat)
      case atStart => exact ⟨0, vs, Nat.zero_le _, rfl, HR.out, HFR.out⟩
      case round =>
        obtain ⟨j, us, hj, rfl, hRj, hfj⟩ := hrel
        by_cases hlj : j < (gat G i).length
        · obtain ⟨ad2, u, rfl, _, hu, hx⟩ := (HROW.out wr hfj).at_ hlj
          rw [is_at _ j hlj] at hu
          injection hu with hu
          subst hu
          obtain ⟨kx, hkx, hkn⟩ := HP.out i j hlj
          have HPU : Hid ((rows (usF G i j) G.length).set kx (usF G i j kx ++ [(i : Int)]) = rows (usF G i (j + 1)) G.length) := usF_push hlj hkx
          rw [hkx] at hx
          obtain ⟨A1, c1, hv1, hcell, hown, hlc1, hcm1⟩ := hRj.cell (i := kx) (by rw [rows_length]; exact hkn)
          rw [rows_getE] at hv1 hcell hown hlc1
          have hpl := usF_len G 10000 HM.out i j kx
          have hpl2 : (i + 1) * 10000 ≤ 10010000 := by omega
          have HFJ := Lib.hid hfj
          have HRJ := Lib.hid hRj
          obtain ⟨cur, hcur⟩ := hRj.out.blk w.heap.size rfl
          have HV1 := Lib.hid hv1
          have HRW : Hid ((rows (usF G i j) G.length)[kx]? = some (usF G i j kx)) := rows_get _ _ _ hkn
          have HOW := Lib.hid hown
          have HCUR := Lib.hid hcur
          clear hRj hfj hv1 hcur hkx
          generalize hPL : usF G i j kx = L at *
          have hLl : (L.length : Int) ≤ 10010000 := by omega
          clear hpl hpl2
          go_wp2_with (at_builtin; refine wpList_app _ rfl (.tmp 29) (.tmp 31) 26 26 rfl elI (HOW.out.alloc (.cells #[.int .i64 (i : Int)] 3)) rfl (Src.of_new (cs := #[.int .i64 (i : Int)]) (t := 3) wr.heap.size (heap_alloc_new wr _) Try.underlying26 rfl (by simp [Value.oneCell'])) rfl (by simp only [maxLen]; omega) (by omega) ?_; intro v3 w3 hown3 hfr3 hnew3; obtain ⟨A3, c3, rfl, -, -⟩ := hown3.form; have hne := HOW.out.ne_ HCUR.out (by decide); have hcu := (HCUR.out.alloc (.cells #[.int .i64 (i : Int)] 3)).fr hfr3 hne; have k1 := hcu.frozen kx; have kc := hfr3.cell_some (((Fr.refl No wr).alloc (.cells #[.int .i64 (i : Int)] 3)).cell_some hcell (fun h => h)) hne)
          have hput := (HRJ.out.no ((Fr.refl No wr).alloc (.cells #[.int .i64 (i : Int)] 3))).put (L' := L ++ [(i : Int)]) HV1.out HRW.out hfr3 (by rw [List.length_append, is_append]; exact hown3) (hnew3.imp id (fun e => ⟨_, e, Nat.le_refl _⟩)) (by have := HFJ.out.size; simp; omega) rfl
          rw [HPU.out] at hput
          have HPT := Lib.hid hput
          have HF3 : Hid (Fr No w (w3.setCell ⟨w.heap.size, kx, none⟩ (.slice A3 (L.length + 1) c3))) := ((HFJ.out.alloc (.cells #[.int .i64 (i : Int)] 3)).trans' hfr3 (fun k hk hlt => by
            have h1 := HRJ.out.new kx _ k HV1.out hk
            omega)).trans' (fr_set _ w.heap.size kx _) (fun k hk hlt => by
            have : k = w.heap.size := hk
            omega)
          clear hput hown3 hfr3 hnew3
          go_wp2
          go_roundw
          case rel => exact ⟨j + 1, _, by omega, by go_num, HPT.out, HF3.out⟩
          case measure => simp [intOf]; omega
        · obtain rfl : j = (gat G i).length := by omega
          rw [usF_next] at hRj
          have HRJ := Lib.hid hRj
          have HFJ := Lib.hid hfj
          clear hRj hfj
          go_wp2
          go_roundw
          case rel => exact ⟨i + 1, us, by omega, by go_num, HRJ.out, HFJ.out⟩
          case measure => simp [intOf]; omega
    · obtain rfl : i = G.length := by omega
      rw [usF_all] at hR
      have HR := Lib.hid hR
      have HFR := Lib.hid hfr
      have hlen : (usersG G).length = G.length := rows_length _ _
      clear hR hfr
      go_wp2
      go_ret
      exact ⟨w.heap.size, vs, by rw [hlen]; rfl, HR.out, HFR.out⟩
end Go.Proofs.Ytcjofakhefpfdaa
