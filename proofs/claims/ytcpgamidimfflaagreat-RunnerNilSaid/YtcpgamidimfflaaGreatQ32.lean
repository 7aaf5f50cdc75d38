/- (*Runner).graph. Open: the walk. -/
import Derived.Test.YtcpgamidimfflaaGreatQ24
import Derived.Test.YtcpgamidimfflaaGreatQ31
import Derived.Test.YtcpgamidimfflaaGreatQ30
import Derived.Test.YtcpgamidimfflaaGreatQ04
namespace Go.Proofs.YtcpgamidimfflaaGreat
open Go.RowKit Go.My Go.Maps Go.WideMaps
set_option linter.unusedSimpArgs false
set_option linter.unusedVariables false
attribute [local go_sem ↓] Go.wp_at_zero Go.wp_at_succ
def dpA (s : Ru) (l : List In2) (k : Nat) : List In2 := ((l[k]?).map s.dp).getD []
theorem dpA_at (s : Ru) {l : List In2} {k : Nat} (h : k < l.length) : dpA s l k = s.dp l[k] := by unfold dpA; rw [List.getElem?_eq_getElem h]; rfl
def rwF (s : Ru) (l : List In2) (u : Int) (i j k : Nat) : List Int := if k < i then rowG s.ks l u (dpA s l k) else if k = i then rowG s.ks l u ((dpA s l i).take j) else []
theorem rwF_zero (s : Ru) (l : List In2) (u : Int) (n : Nat) : rows (rwF s l u 0 0) n = List.replicate n [] := by
  rw [← rows_nil]
  refine rows_congr fun k _ => ?_
  unfold rwF
  rw [if_neg (by omega)]
  split
  · rfl
  · rfl
theorem rwF_step {s : Ru} {l : List In2} {u : Int} {i j n : Nat} (hj : j < (dpA s l i).length) : (rows (rwF s l u i j) n).set i (rwF s l u i j i ++ (toG s.ks l u (dpA s l i)[j]).toList) = rows (rwF s l u i (j + 1)) n := by
  rw [rows_set]
  refine rows_congr fun b _ => ?_
  unfold rwF
  by_cases e : b = i
  · subst e
    rw [if_pos rfl, if_neg (Nat.lt_irrefl _), if_pos rfl, if_neg (Nat.lt_irrefl _), if_pos rfl, List.take_succ_eq_append_getElem hj, rowG_snoc]
  · rw [if_neg e]
    simp only [if_neg e]
theorem rwF_skip {s : Ru} {l : List In2} {u : Int} {i j n : Nat} (hj : j < (dpA s l i).length) (h : toG s.ks l u (dpA s l i)[j] = none) : rows (rwF s l u i j) n = rows (rwF s l u i (j + 1)) n := by
  refine rows_congr fun b _ => ?_
  unfold rwF
  by_cases e : b = i
  · subst e
    rw [if_neg (Nat.lt_irrefl _), if_pos rfl, if_neg (Nat.lt_irrefl _), if_pos rfl, List.take_succ_eq_append_getElem hj, rowG_snoc, h]
    simp
  · simp only [if_neg e]
theorem rwF_next (s : Ru) (l : List In2) (u : Int) (i n : Nat) : rows (rwF s l u i (dpA s l i).length) n = rows (rwF s l u (i + 1) 0) n := by
  refine rows_congr fun b _ => ?_
  unfold rwF
  rw [List.take_length]
  rcases Nat.lt_trichotomy b i with c | c | c
  · rw [if_pos c, if_pos (by omega)]
  · subst c
    rw [if_neg (Nat.lt_irrefl _), if_pos rfl, if_pos (by omega)]
  · rw [if_neg (by omega), if_neg (by omega), if_neg (by omega)]
    split
    · rfl
    · rfl
theorem rwF_all (s : Ru) (l : List In2) (u : Int) : rows (rwF s l u l.length 0) l.length = graphL s l u := by
  unfold graphL rows
  apply List.ext_getElem
  · rw [List.length_map, List.length_map, List.length_range]
  · intro k h1 h2
    rw [List.length_map] at h2
    rw [List.getElem_map, List.getElem_map, List.getElem_range]
    unfold rwF
    rw [if_pos h2, dpA_at s h2]
theorem rwF_len (s : Ru) (l : List In2) (u : Int) (i j : Nat) : (rwF s l u i j i).length ≤ (dpA s l i).length := by
  unfold rwF
  rw [if_neg (Nat.lt_irrefl _), if_pos rfl]
  have h1 := rowG_le s.ks l u ((dpA s l i).take j)
  rw [List.length_take] at h1
  omega
theorem knowsS_any (w : World) (r : Pr) (s : Ru) (h : RnS w r s) (d : In2) (hd : IdOk d) :
    Calls Tryz.prog 64 #[.pointer (some ⟨r.p, 0, none⟩), .agg #[.int .i64 d.1, .int .i64 d.2]] w fun e w' => e = .returned (.bool (decide (d ∈ s.ks))) ∧ Fr No w w' := by
  obtain ⟨L, f, h1, h2⟩ := h.kn
  have h3 := h2 d hd
  cases hg : s.get d with
  | none =>
    rw [hg] at h3
    have h3 : f d = none := h3
    have hn : d ∉ s.ks := getS_none.1 hg
    have h4 := knows_any r.p r.km _ _ _ _ L f d w h.blk h1 hd ⟨od0, false, []⟩ none none 0 0 0 0 (by rw [h3]; rfl)
    rw [h3] at h4
    rw [decide_eq_false hn]
    exact h4
  | some e =>
    rw [hg] at h3
    obtain ⟨v, A, c, h3, h5⟩ := h3
    obtain ⟨B, b, rfl, -, -⟩ := h5.legs.form
    have hn : d ∈ s.ks := Ru.get_mem.1 (by rw [hg]; rfl)
    have h4 := knows_any r.p r.km _ _ _ _ L f d w h.blk h1 hd e B A _ b _ c (by rw [h3]; rfl)
    rw [h3] at h4
    rw [decide_eq_true hn]
    exact h4
theorem RnM.look {w : World} {r : Pr} {s : Ru} (h : RnM w r s) {i : In2} {e : En} (hi : IdOk i) (hg : s.get i = some e) : ∃ (B A : Option Addr) (b c : Nat), EnS w r.E e (.slice B e.o.legs.length b) A c ∧ ∀ W, Fr No w W →
    (Instr.lookup 88 (.map (some r.km)) (.agg #[.int .i64 i.1, .int .i64 i.2]) false).run Tryz.prog W = .ok (e.val (.slice B e.o.legs.length b) (.slice A e.deps.length c)) W := by
  obtain ⟨L, f, h1, h2⟩ := h.kn
  have h3 := h2 i hi
  rw [hg] at h3
  obtain ⟨v, A, c, h3, h5⟩ := h3
  obtain ⟨B, b, rfl, -, -⟩ := h5.legs.form
  refine ⟨B, A, b, c, h5, fun W hW => ?_⟩
  have := (h1.fr hW (fun h => h)).look keyIn Tryz.underlying88 (zeroEn W) i hi
  rw [h3] at this
  exact this
theorem dp_ok {s : Ru} (h : RuI s) (i : In2) : ∀ d ∈ s.dp i, IdOk d := fun d hd => by
  unfold Ru.dp at hd
  cases hg : s.get i with
  | none => rw [hg] at hd; cases hd
  | some e =>
    rw [hg] at hd
    exact rightI_ok ((rightE_d (h.right _ (getS_some hg))).2 d hd).1
theorem fieldDeps (a0 a1 a2 : Int) (a3 a4 : ByteArray) (a5 : Int) (eB : Option Addr) (n1 eb : Nat) (a6 a7 : Int) (a8 : ByteArray) (b0 : Bool) (eA : Option Addr) (n ec : Nat) (W : World) : (Instr.field 38 (.agg #[.int .i64 a0, .int .i64 a1, .int .i64 a2, .string a3, .string a4, .int .i64 a5, .slice eB n1 eb, .int .i64 a6, .int .i64 a7, .string a8, .bool b0, .slice eA n ec]) 2).run Tryz.prog W = .ok (.slice eA n ec) W := by kernel_rfl
def GO (s : Ru) (l : List In2) (u : Int) (n : Nat) (w1 : World) (iv : Value) (wr : World) : Prop := ∃ (i : Nat) (vs : List Value), i ≤ n ∧ iv = .int .i64 i ∧ IRows w1.heap.size wr w1.heap.size vs (rows (rwF s l u i 0) n) ∧ Fr No w1 wr
def GI (s : Ru) (l : List In2) (u : Int) (n : Nat) (w1 : World) (i q : Nat) (jv : Value) (wr : World) : Prop := ∃ (j : Nat) (vs : List Value), j ≤ q ∧ jv = .int .i64 j ∧ IRows w1.heap.size wr w1.heap.size vs (rows (rwF s l u i j) n) ∧ Fr No w1 wr
set_option maxRecDepth 100000 in
set_option maxHeartbeats 4000000 in
theorem graph_any (w : World) (r : Pr) (s : Ru) (F : Nat → Prop) (A : Option Addr) (c : Nat) (l : List In2) (u : Int) (h : RnS w r s) (hl : Rd w F 2 A l.length (ins2 l)) (hs : ∀ i ∈ l, i ∈ s.ks) (hn : l.length ≤ 1000) (hm : ∀ i, (s.dp i).length ≤ 10000) :
    Calls Tryz.prog 89 #[.pointer (some ⟨r.p, 0, none⟩), .slice A l.length c, .int .i64 u] w (RetG w (graphL s l u)) := by
  have HNU := Lib.hid (numbers_any w F A c l hl (by omega) fun i hi => rightI_ok (h.inv.ri i (hs i hi)))
  have HL : Hid (∀ W, Fr No w W → Rd W F 2 A l.length (ins2 l)) := Lib.hid fun W hW => hl.fr (by decide) hW (fun _ _ _ h => h)
  have HH := Lib.hid h
  have HS := Lib.hid hs
  have HDL : Hid (∀ i, (dpA s l i).length ≤ 10000) := Lib.hid fun i => by
    unfold dpA
    cases l[i]? with
    | none => simp
    | some x => exact hm x
  obtain ⟨n, hnn⟩ : ∃ n, n = l.length := ⟨_, rfl⟩
  have HNN := Lib.hid hnn
  have hmk := fun W => run_make1 (P := Tryz.prog) elG zeroG rfl .i64 .i64 n (by omega) (by simp only [maxLen]; omega) W
  have hn' : n ≤ 1000 := by omega
  rw [← hnn] at HNU HL ⊢
  clear h hl hs hm hn hnn
  go_enter Tryz.func89, Tryz.ntmps89
  go_wp2_with (go_at_call 87; (with_reducible refine HNU.out.mono ?_); rintro _ w1 ⟨m, rfl, p1, p2, p3⟩; have HN1 := Lib.hid p1; have HF1 := Lib.hid p2; clear p1 p2 p3)
  have HZ : Hid (IRows w1.heap.size (w1.alloc (.cells (zrow n (.slice none 0 0)).toArray 66)) w1.heap.size (zrow n (.slice none 0 0)) (rows (rwF s l u 0 0) n)) := by
    rw [rwF_zero]
    exact IRows.zero w1 n (by omega)
  go_loopw [22] (fun iv wr => GO s l u n w1 iv wr) (fun iv _ => n - (intOf iv).toNat)
  case atStart => exact ⟨0, _, Nat.zero_le _, rfl, HZ.out, (Fr.refl _ _).alloc _⟩
  case round =>
    obtain ⟨i, vs, hi, rfl, hR, hfr⟩ := hrel
    by_cases hlt : i < n
    · have hlt' : i < l.length := by rw [← HNN.out]; exact hlt
      have hrl := HL.out wr (HF1.out.trans hfr)
      rw [HNN.out] at hrl
      obtain ⟨ad, rfl, _, p0, p1⟩ := in2_at hrl i hlt'
      have hik := HS.out _ (List.getElem_mem hlt')
      obtain ⟨e, he⟩ : ∃ e, s.get l[i] = some e := Option.isSome_iff_exists.1 (Ru.get_mem.2 hik)
      have hdp : dpA s l i = e.deps := by rw [dpA_at s hlt']; unfold Ru.dp; rw [he]; rfl
      obtain ⟨eB, eA, eb, ec, hen, hlook⟩ := HH.out.look (rightI_ok (HH.out.inv.ri _ hik)) he
      have HDR : Hid (∀ W, Fr No w W → Rd W r.E 2 eA e.deps.length (ins2 e.deps)) := Lib.hid fun W hW => (hen.no hW).deps
      have HDK : Hid (∀ d ∈ e.deps, IdOk d) := Lib.hid (by have := dp_ok HH.out.inv l[i]; unfold Ru.dp at this; rw [he] at this; exact this)
      have HR := Lib.hid hR
      have HFR := Lib.hid hfr
      have hq : e.deps.length ≤ 10000 := by have := HDL.out i; rw [hdp] at this; exact this
      have HST : Hid (∀ j (hj : j < e.deps.length), (rows (rwF s l u i j) n).set i (rwF s l u i j i ++ (toG s.ks l u e.deps[j]).toList) = rows (rwF s l u i (j + 1)) n) := Lib.hid fun j hj => by
        have := rwF_step (s := s) (l := l) (u := u) (i := i) (j := j) (n := n) (by rw [hdp]; exact hj)
        simp only [hdp] at this
        exact this
      have HSK : Hid (∀ j (hj : j < e.deps.length), toG s.ks l u e.deps[j] = none → rows (rwF s l u i j) n = rows (rwF s l u i (j + 1)) n) := Lib.hid fun j hj h0 => rwF_skip (by rw [hdp]; exact hj) (by simp only [hdp]; exact h0)
      have HNX : Hid (rows (rwF s l u i e.deps.length) n = rows (rwF s l u (i + 1) 0) n) := Lib.hid (by have := rwF_next s l u i n; rw [hdp] at this; exact this)
      clear hR hfr hrl hik he hdp hen
      obtain ⟨⟨a0, a1, a2, a3, a4, a5, lg, a6, a7, a8⟩, b0, ds⟩ := e
      unfold En.val at hlook
      simp only at hlook HDR HDK hq HST HSK HNX
      generalize l[i] = x at *
      obtain ⟨x1, x2⟩ := x
      simp only at hlook p0 p1
      have HX : Hid (∀ W, Fr No (wr.alloc (.cells #[.int .i64 x1, .int .i64 x2] 30)) W → Fr No (wr.alloc (.cells #[.int .i64 x1, .int .i64 x2] 30)) W ∧ W.cell? ⟨r.p, 0, none⟩ = some (.map (some r.km)) ∧ W.cell? ⟨wr.heap.size, 0, none⟩ = some (.int .i64 x1) ∧ W.cell? ⟨wr.heap.size, 1, none⟩ = some (.int .i64 x2) ∧
          (Instr.lookup 88 (.map (some r.km)) (.agg #[.int .i64 x1, .int .i64 x2]) false).run Tryz.prog W = .ok (.agg #[.int .i64 a0, .int .i64 a1, .int .i64 a2, .string a3, .string a4, .int .i64 a5, .slice eB lg.length eb, .int .i64 a6, .int .i64 a7, .string a8, .bool b0, .slice eA ds.length ec]) W) := Lib.hid fun W hW => by
        have hW2 : Fr No w W := ((HF1.out.trans HFR.out).alloc _).trans hW
        have h2 := (Blk.new wr 30 #[.int .i64 x1, .int .i64 x2]).fr hW (fun h => h)
        exact ⟨hW, (HH.out.blk.fr hW2 (fun h => h)).cell 0, h2.cell 0, h2.cell 1, hlook W hW2⟩
      clear hlook
      have hfd := fun W => fieldDeps a0 a1 a2 a3 a4 a5 eB lg.length eb a6 a7 a8 b0 eA ds.length ec W
      go_upto_region 6 with (fail)
      generalize hw2 : wr.alloc (.cells #[.int .i64 x1, .int .i64 x2] 30) = w2 at *
      have HF2 : Hid (Fr No wr w2) := Lib.hid (by rw [← hw2]; exact (Fr.refl No wr).alloc _)
      clear hw2
      go_region_held3 (fun W => Fr No w2 W ∧ W.cell? ⟨r.p, 0, none⟩ = some (.map (some r.km)) ∧ W.cell? ⟨wr.heap.size, 0, none⟩ = some (.int .i64 x1) ∧ W.cell? ⟨wr.heap.size, 1, none⟩ = some (.int .i64 x2) ∧ (Instr.lookup 88 (.map (some r.km)) (.agg #[.int .i64 x1, .int .i64 x2]) false).run Tryz.prog W = .ok (.agg #[.int .i64 a0, .int .i64 a1, .int .i64 a2, .string a3, .string a4, .int .i64 a5, .slice eB lg.length eb, .int .i64 a6, .int .i64 a7, .string a8, .bool b0, .slice eA ds.length ec]) W)
        (first
          | (with_reducible refine HX.out _ ?_; with_reducible assumption)
          | (with_reducible refine HX.out _ ?_; exact Fr.drew (Fr.refl _ _)))
        (fail)
      clear HX
      have HFO : Hid (Fr No w1 w2.drew) := Lib.hid ((HFR.out.trans HF2.out).drew)
      have HRO : Hid (IRows w1.heap.size w2.drew w1.heap.size vs (rows (rwF s l u i 0) n)) := Lib.hid (HR.out.no (HF2.out.drew))
      clear HR HFR HF2
      go_wp2
      generalize w2.drew = wo at *
      go_loopw [35] (fun jv wq => GI s l u n w1 i ds.length jv wq) (fun jv _ => ds.length - (intOf jv).toNat)
      case atStart => exact ⟨0, vs, Nat.zero_le _, rfl, HRO.out, HFO.out⟩
      case round =>
        obtain ⟨j, us, hj, rfl, hRj, hfj⟩ := hrel
        by_cases hlj : j < ds.length
        · have hrl := HDR.out wr (HF1.out.trans hfj)
          obtain ⟨ad2, rfl, _, q0, q1⟩ := in2_at hrl j hlj
          have hdk := HDK.out _ (List.getElem_mem hlj)
          have HST1 := Lib.hid (HST.out j hlj)
          have HSK1 := Lib.hid (HSK.out j hlj)
          have hRj3 := hRj.no ((Fr.refl No wr).alloc (.cells #[.int .i64 ds[j].1, .int .i64 ds[j].2] 30))
          have hfj3 := hfj.alloc (.cells #[.int .i64 ds[j].1, .int .i64 ds[j].2] 30)
          have hnl := (HN1.out.no hfj3).look ds[j] hdk
          have hdb := Blk.new wr 30 #[.int .i64 ds[j].1, .int .i64 ds[j].2]
          have HKN : Hid (Calls Tryz.prog 64 #[.pointer (some ⟨r.p, 0, none⟩), .agg #[.int .i64 ds[j].1, .int .i64 ds[j].2]] (wr.alloc (.cells #[.int .i64 ds[j].1, .int .i64 ds[j].2] 30)) fun e w' => e = .returned (.bool (decide (ds[j] ∈ s.ks))) ∧ Fr No (wr.alloc (.cells #[.int .i64 ds[j].1, .int .i64 ds[j].2] 30)) w') := Lib.hid (knowsS_any _ r s (HH.out.no (HF1.out.trans hfj3)) ds[j] hdk)
          have HTG : Hid (toG s.ks l u ds[j] = match posF l ds[j] with | some n => some (n : Int) | none => if ds[j] ∈ s.ks then none else some u) := Lib.hid rfl
          clear hRj hrl hdk
          generalize ds[j] = d at *
          generalize toG s.ks l u d = tg at *
          generalize posF l d = pf at *
          generalize hkd : decide (d ∈ s.ks) = kd at *
          have HKD := Lib.hid hkd
          clear hkd
          obtain ⟨d1, d2⟩ := d
          simp only at hnl hdb hRj3 hfj3 q0 q1 HKN
          go_upto_region 9 with (fail)
          generalize wr.alloc (.cells #[.int .i64 d1, .int .i64 d2] 30) = W3 at *
          have y0 := hdb.cell 0
          have y1 := hdb.cell 1
          simp only [List.getElem?_toArray, List.getElem?_cons_zero, List.getElem?_cons_succ] at y0 y1
          clear hdb hfj q0 q1
          obtain ⟨A1, c1, hv1, hcell, hown, hlc1, hcm1⟩ := hRj3.cell (i := i) (by rw [rows_length]; exact hlt)
          rw [rows_getE] at hv1 hcell hown hlc1
          obtain ⟨cur, hcur⟩ := hRj3.out.blk w1.heap.size rfl
          have HFJ := Lib.hid hfj3
          have HRJ := Lib.hid hRj3
          have HV1 := Lib.hid hv1
          have HRW : Hid ((rows (rwF s l u i j) n)[i]? = some (rwF s l u i j i)) := rows_get _ _ _ hlt
          have HOW := Lib.hid hown
          have HCUR := Lib.hid hcur
          have hpl : (rwF s l u i j i).length ≤ 1000000 := by have h1 := rwF_len s l u i j; have h2 := HDL.out i; omega
          have HNXT := Lib.hid hRj3
          clear hRj3 hfj3 hv1 hcur hown
          generalize hPL : rwF s l u i j i = L at *
          have hLl : (L.length : Int) ≤ 1000000 := by omega
          clear hpl
          cases pf with
          | some k =>
            have e1 : tg = some (k : Int) := HTG.out
            rw [e1] at HST1
            have HPU : Hid ((rows (rwF s l u i j) n).set i (L ++ [(k : Int)]) = rows (rwF s l u i (j + 1)) n) := HST1
            clear HST1 HSK1 HTG e1
            simp only [posO, Option.isSome_some] at hnl
            go_wp2_with (at_builtin; refine wpList_app _ rfl (.tmp 51) (.tmp 53) 66 66 rfl elKI (HOW.out.alloc (.cells #[.int .i64 (k : Int)] 3)) rfl (Src.of_new (cs := #[.int .i64 (k : Int)]) (t := 3) W3.heap.size (heap_alloc_new W3 _) Tryz.underlying66 rfl (by simp [Value.oneCell'])) rfl (by simp only [maxLen]; omega) (by omega) ?_; intro v3 w3 hown3 hfr3 hnew3; obtain ⟨A3, c3, rfl, -, -⟩ := hown3.form; have hne := HOW.out.ne_ HCUR.out (by decide); have hcu := (HCUR.out.alloc (.cells #[.int .i64 (k : Int)] 3)).fr hfr3 hne; have k1 := hcu.frozen i; have kc := hfr3.cell_some (((Fr.refl No W3).alloc (.cells #[.int .i64 (k : Int)] 3)).cell_some hcell (fun h => h)) hne)
            have hput := (HRJ.out.no ((Fr.refl No W3).alloc (.cells #[.int .i64 (k : Int)] 3))).put (L' := L ++ [(k : Int)]) HV1.out HRW.out hfr3 (by rw [List.length_append, is_append]; exact hown3) (hnew3.imp id (fun e => ⟨_, e, Nat.le_refl _⟩)) (by have := HFJ.out.size; simp; omega) rfl
            rw [HPU.out] at hput
            have HPT := Lib.hid hput
            have HF3 : Hid (Fr No w1 (w3.setCell ⟨w1.heap.size, i, none⟩ (.slice A3 (L.length + 1) c3))) := ((HFJ.out.alloc (.cells #[.int .i64 (k : Int)] 3)).trans' hfr3 (fun k hk hlt => by
              have h1 := HRJ.out.new i _ k HV1.out hk
              omega)).trans' (fr_set _ w1.heap.size i _) (fun k hk hlt => by
              have : k = w1.heap.size := hk
              omega)
            clear hput hown3 hfr3 hnew3
            go_wp2
            go_roundw
            case rel => exact ⟨j + 1, _, by omega, by go_num, HPT.out, HF3.out⟩
            case measure => simp [intOf]; omega
          | none =>
            simp only [posO, Option.isSome_none] at hnl
            cases kd with
            | false =>
              have e1 : tg = some u := HTG.out.trans (if_neg (of_decide_eq_false HKD.out))
              rw [e1] at HST1
              have HPU : Hid ((rows (rwF s l u i j) n).set i (L ++ [u]) = rows (rwF s l u i (j + 1)) n) := HST1
              clear HST1 HSK1 HTG e1
              go_upto_region 13 with (go_at_call 64; (with_reducible refine HKN.out.mono ?_); rintro _ W4 ⟨rfl, f4⟩; have HF4 := Lib.hid f4; clear f4)
              have HOW4 := Lib.hid (HOW.out.fr HF4.out (fun _ _ h => h))
              have HCUR4 := Lib.hid (HCUR.out.fr HF4.out (fun h => h))
              have HRJ4 := Lib.hid (HRJ.out.no HF4.out)
              have HFJ4 := Lib.hid (HFJ.out.trans HF4.out)
              have hcell4 := HF4.out.cell_some hcell (fun h => h)
              clear HOW HCUR HRJ HFJ hcell
              go_wp2_with (at_builtin; refine wpList_app _ rfl (.tmp 65) (.tmp 67) 66 66 rfl elKI (HOW4.out.alloc (.cells #[.int .i64 u] 3)) rfl (Src.of_new (cs := #[.int .i64 u]) (t := 3) W4.heap.size (heap_alloc_new W4 _) Tryz.underlying66 rfl (by simp [Value.oneCell'])) rfl (by simp only [maxLen]; omega) (by omega) ?_; intro v3 w3 hown3 hfr3 hnew3; obtain ⟨A3, c3, rfl, -, -⟩ := hown3.form; have hne := HOW4.out.ne_ HCUR4.out (by decide); have hcu := (HCUR4.out.alloc (.cells #[.int .i64 u] 3)).fr hfr3 hne; have k1 := hcu.frozen i; have kc := hfr3.cell_some (((Fr.refl No W4).alloc (.cells #[.int .i64 u] 3)).cell_some hcell4 (fun h => h)) hne)
              have hput := (HRJ4.out.no ((Fr.refl No W4).alloc (.cells #[.int .i64 u] 3))).put (L' := L ++ [u]) HV1.out HRW.out hfr3 (by rw [List.length_append, is_append]; exact hown3) (hnew3.imp id (fun e => ⟨_, e, Nat.le_refl _⟩)) (by have := HFJ4.out.size; simp; omega) rfl
              rw [HPU.out] at hput
              have HPT := Lib.hid hput
              have HF3 : Hid (Fr No w1 (w3.setCell ⟨w1.heap.size, i, none⟩ (.slice A3 (L.length + 1) c3))) := ((HFJ4.out.alloc (.cells #[.int .i64 u] 3)).trans' hfr3 (fun k hk hlt => by
                have h1 := HRJ4.out.new i _ k HV1.out hk
                omega)).trans' (fr_set _ w1.heap.size i _) (fun k hk hlt => by
                have : k = w1.heap.size := hk
                omega)
              clear hput hown3 hfr3 hnew3
              go_wp2
              go_roundw
              case rel => exact ⟨j + 1, _, by omega, by go_num, HPT.out, HF3.out⟩
              case measure => simp [intOf]; omega
            | true =>
              have e1 : tg = none := HTG.out.trans (if_pos (of_decide_eq_true HKD.out))
              have e2 := HSK1.out e1
              rw [e2] at HRJ
              clear HST1 HSK1 HTG e1 e2
              go_wp2_with (go_at_call 64; (with_reducible refine HKN.out.mono ?_); rintro _ W4 ⟨rfl, f4⟩; have HF4 := Lib.hid f4; clear f4)
              go_roundw
              case rel => exact ⟨j + 1, _, by omega, by go_num, HRJ.out.no HF4.out, HFJ.out.trans HF4.out⟩
              case measure => simp [intOf]; omega
        · obtain rfl : j = ds.length := by omega
          rw [HNX.out] at hRj
          have HRJ := Lib.hid hRj
          have HFJ := Lib.hid hfj
          clear hRj hfj
          go_wp2
          go_roundw
          case rel => exact ⟨i + 1, us, by omega, by go_num, HRJ.out, HFJ.out⟩
          case measure => simp [intOf]; omega
    · obtain rfl : i = n := by omega
      have HR : Hid (IRows w1.heap.size wr w1.heap.size vs (graphL s l u)) := Lib.hid (by rw [← rwF_all, ← HNN.out]; exact hR)
      have HFR := Lib.hid hfr
      have HLEN : Hid ((graphL s l u).length = i) := Lib.hid (by rw [graphL_len]; exact HNN.out.symm)
      clear hR hfr
      go_wp2
      go_ret
      exact ⟨w1.heap.size, vs, by rw [HLEN.out]; rfl, HR.out.lower HF1.out.size, HF1.out.trans HFR.out⟩
end Go.Proofs.YtcpgamidimfflaaGreat
namespace Go.Proofs.YtcpgamidimfflaaGreat
open Go.RowKit Go.My Go.Maps
set_option linter.unusedSimpArgs false
set_option linter.unusedVariables false
attribute [local go_sem ↓] Go.wp_at_zero Go.wp_at_succ
set_option maxRecDepth 100000 in
set_option maxHeartbeats 2000000 in
theorem open_any2 (w : World) (F F2 : Nat → Prop) (A K : Option Addr) (c kc : Nat) (G : List (List Int)) (kl : List Bool) (hg : RdG w F A G) (hr : Rd w F2 1 K kl.length (kl.map Value.bool)) (hn : G.length ≤ 1000) (hm : ∀ L ∈ G, L.length ≤ 10000) (hkl : kl.length ≤ 9223372036854775807) :
    Calls Tryz.prog 91 #[.slice A G.length c, .slice K kl.length kc] w (RetX w (openX G kl)) := by
  have HPR : Hid (∀ W, Fr No w W → Calls Tryz.prog 128 #[.slice A G.length c] W (RetG W (propG G))) := fun W hW => proper_any W F A c G (hg.no hW) (by omega) fun L hL => Nat.le_trans (hm L hL) (by omega)
  have hml : ∀ L ∈ propG G, L.length ≤ 10000 := fun L hL => by
    obtain ⟨k, hk, rfl⟩ := List.getElem_of_mem hL
    rw [← gat_at hk]
    exact propG_row hm k
  have HUS : Hid (∀ (w0 W : World) (gs : Nat) (vs : List Value), IRows w0.heap.size W gs vs (propG G) → Calls Tryz.prog 127 #[.slice (some ⟨gs, 0, none⟩) G.length G.length] W (RetG W (usersG (propG G)))) := fun w0 W gs vs hI => by
    have := users_any W _ (some ⟨gs, 0, none⟩) G.length (propG G) hI.rdG (by rw [propG_len]; exact hn) hml (fun L hL x hx => by
      obtain ⟨k, hk, rfl⟩ := List.getElem_of_mem hL
      rw [← gat_at hk] at hx
      exact propG_pl G k x hx)
    rw [propG_len] at this
    exact this
  have HSP : Hid (∀ (w0 W : World) (gs : Nat) (vs : List Value) (F3 : Nat → Prop) (B : Option Addr) (c3 : Nat), IRows w0.heap.size W gs vs (usersG (propG G)) → Rd W F3 1 B (pick (unk kl) G.length).length (is_ (pick (unk kl) G.length)) → Calls Tryz.prog 126 #[.slice (some ⟨gs, 0, none⟩) G.length G.length, .slice B (pick (unk kl) G.length).length c3] W (RetX W (Led (usersG (propG G)) (pick (unk kl) G.length)))) := fun w0 W gs vs F3 B c3 hI hR => by
    have hlen : (usersG (propG G)).length = G.length := by rw [usersG_len, propG_len]
    have := spread_any W _ F3 (some ⟨gs, 0, none⟩) B G.length c3 (usersG (propG G)) (pick (unk kl) G.length) hI.rdG hR (by omega) (fun k => Nat.le_trans (usersG_row (fun k => propG_row hm k) k) (by
      rw [propG_len]
      have : (G.length + 1) * 10000 ≤ 1001 * 10000 := Nat.mul_le_mul_right _ (by omega)
      omega)) (usersG_pl _) (fun x hx => by
      obtain ⟨a, ha, _, rfl⟩ := (pick_mem _ _ _).1 hx
      omega) (by have := pick_len (unk kl) G.length; omega)
    rw [hlen] at this
    exact this
  have HK : Hid (∀ W, Fr No w W → Rd W F2 1 K kl.length (kl.map Value.bool)) := fun W hW => hr.fr (by omega) hW fun _ _ _ h => h
  have hmk := fun W => run_make1 (P := Tryz.prog) elBo zeroBo rfl .i64 .i64 G.length (by omega) (by simp only [maxLen]; omega) W
  have HZ := Lib.hid (OpM.zero w (n := G.length) (by omega))
  clear hg hm hml hr
  go_enter Tryz.func91, Tryz.ntmps91
  go_wp2
  go_loopw [5, 17] (fun uv iv wr => O1 w kl G.length uv iv wr) (fun _ iv _ => G.length - (intOf iv).toNat)
  case atStart => exact ⟨0, none, 0, Nat.zero_le _, HZ.out, rfl, rfl⟩
  case round =>
    obtain ⟨i, Au, cu, hi, hM, rfl, rfl⟩ := hrel
    have hpl := pick_len (unk kl) i
    by_cases hlt : i < G.length
    · have hy := fun h => pick_yes (q := unk kl) (i := i) h
      have hnn := fun h => pick_no (q := unk kl) (i := i) h
      have push : ∀ (hu : unk kl i = true), True := fun _ => trivial
      obtain ⟨_, hsf⟩ := hM.seen hlt
      by_cases hik : i < kl.length
      · obtain ⟨adk, u, rfl, _, hu0, hkc⟩ := (HK.out wr hM.f).at_ hik
        rw [List.getElem?_map, List.getElem?_eq_getElem hik] at hu0
        injection hu0 with hu0
        subst hu0
        have hui := unk_in hik
        generalize kl[i] = q at *
        cases q with
        | false =>
          have hu : unk kl i = true := hui
          clear hui
          have HY := Lib.hid (hy hu)
          have HMM := Lib.hid hM
          clear hy hnn push hM hu
          have hcellx : ∃ y, wr.cell? ⟨w.heap.size, i, none⟩ = some y := ⟨_, (HMM.out.seen hlt).1⟩
          generalize hPK : pick (unk kl) i = U at *
          go_wp2_with (at_builtin; refine wpList_app _ rfl (.tmp 31) (.tmp 33) 66 66 rfl elKI (HMM.out.so.alloc (.cells #[.int .i64 (i : Int)] 3)) rfl (Src.of_new (cs := #[.int .i64 (i : Int)]) (t := 3) wr.heap.size (heap_alloc_new wr _) Tryz.underlying66 rfl (by simp [Value.oneCell'])) rfl (by simp only [maxLen]; omega) (by omega) ?_; intro v3 w3 ho3 hf3 hn3; obtain ⟨A3, c3, rfl, -, -⟩ := ho3.form; have HM2 := Lib.hid (OpM.app HMM.out ho3 hf3 hn3); clear ho3 hf3 hn3; obtain ⟨k1, k2⟩ := HM2.out.seen hlt)
          have HM3 := Lib.hid (OpM.mark HM2.out hlt)
          go_roundw
          case rel => exact ⟨i + 1, A3, c3, by omega, by rw [HY.out]; exact HM3.out, by rw [HY.out, List.length_append]; rfl, by go_num⟩
          case measure => simp [intOf]; omega
        | true =>
          have hu : unk kl i = false := hui
          have HY := Lib.hid (hnn hu)
          have HMM := Lib.hid hM
          clear hy hnn push hM hu hui
          generalize hPK : pick (unk kl) i = U at *
          go_wp2
          go_roundw
          case rel => exact ⟨i + 1, Au, cu, by omega, by rw [HY.out]; exact HMM.out, by rw [HY.out], by go_num⟩
          case measure => simp [intOf]; omega
      · have hu := unk_out hik
        have HY := Lib.hid (hy hu)
        have HMM := Lib.hid hM
        clear hy hnn push hM hu
        have hcellx : ∃ y, wr.cell? ⟨w.heap.size, i, none⟩ = some y := ⟨_, (HMM.out.seen hlt).1⟩
        generalize hPK : pick (unk kl) i = U at *
        go_wp2_with (at_builtin; refine wpList_app _ rfl (.tmp 31) (.tmp 33) 66 66 rfl elKI (HMM.out.so.alloc (.cells #[.int .i64 (i : Int)] 3)) rfl (Src.of_new (cs := #[.int .i64 (i : Int)]) (t := 3) wr.heap.size (heap_alloc_new wr _) Tryz.underlying66 rfl (by simp [Value.oneCell'])) rfl (by simp only [maxLen]; omega) (by omega) ?_; intro v3 w3 ho3 hf3 hn3; obtain ⟨A3, c3, rfl, -, -⟩ := ho3.form; have HM2 := Lib.hid (OpM.app HMM.out ho3 hf3 hn3); clear ho3 hf3 hn3; obtain ⟨k1, k2⟩ := HM2.out.seen hlt)
        have HM3 := Lib.hid (OpM.mark HM2.out hlt)
        go_roundw
        case rel => exact ⟨i + 1, A3, c3, by omega, by rw [HY.out]; exact HM3.out, by rw [HY.out, List.length_append]; rfl, by go_num⟩
        case measure => simp [intOf]; omega
    · obtain rfl : i = G.length := by omega
      have hul := pick_len (unk kl) G.length
      have hmem := fun x => pick_mem (unk kl) G.length x
      have HMEM := Lib.hid hmem
      have HMM := Lib.hid hM
      clear hM hmem hmk HZ
      have hpr := HPR.out wr HMM.out.f
      have HP1 := Lib.hid hpr
      clear hpr
      generalize hPK : pick (unk kl) G.length = U at *
      go_wp2_with (first
        | (go_at_call 128; refine HP1.out.mono ?_; rintro _ w1 ⟨g1, vs1, rfl, hI1, hf1⟩; rw [propG_len])
        | (go_at_call 127; refine (HUS.out _ _ _ _ hI1).mono ?_; rintro _ w2 ⟨g2, vs2, rfl, hI2, hf2⟩; rw [usersG_len, propG_len])
        | (go_at_call 126; refine (HSP.out _ _ _ _ _ _ _ hI2 ((HMM.out.over (hf1.trans hf2)).so.rd)).mono ?_; rintro _ w3 ⟨L, k1, k2, v3, rfl, ho3, hf3, hn3⟩; obtain ⟨A3, c3, rfl, -, -⟩ := ho3.form; have HM3 := Lib.hid (HMM.out.over ((hf1.trans hf2).trans (hf3.mono fun _ _ h => nomatch h))); have HL := Lib.hid ho3; have HK2 := Lib.hid k2; have hLl := nodup_le (k1.imp fun h => by omega) (fun x hx => ((k2 x).1 hx).inR (usersG_pl (propG G))); clear ho3 hf3 hn3 k1 k2 hI1 hI2 hf1 hf2))
      rw [usersG_len, propG_len] at hLl
      generalize w3 = wo at *
      go_loopw [45] (fun jv wr => O2 w wo U L G.length Au cu jv wr) (fun jv _ => L.length - (intOf jv).toNat)
      case atStart => exact ⟨0, Nat.zero_le _, by rw [List.take_zero, List.append_nil]; exact HM3.out, rfl, Fr.refl _ _⟩
      case round =>
        clear HMM hul HP1
        obtain ⟨j, hj, hM, rfl, hfw⟩ := hrel
        by_cases hlj : j < L.length
        · obtain ⟨cur, hcur⟩ := HM3.out.bb.blk w.heap.size rfl
          have hrd := (HL.out.fr hfw fun i hi hS => (HL.out.ne_ hcur (by decide)) (by rw [hi, show i = w.heap.size from hS])).rd
          obtain ⟨ad2, u, rfl, _, hu, hx⟩ := hrd.at_ hlj
          rw [is_at _ j hlj] at hu
          injection hu with hu
          subst hu
          obtain ⟨h0, h1⟩ := ((HK2.out _).1 (List.getElem_mem hlj)).inR (usersG_pl (propG G))
          rw [usersG_len, propG_len] at h1
          obtain ⟨kx, hkx⟩ : ∃ kx : Nat, L[j] = (kx : Int) := ⟨L[j].toNat, by omega⟩
          have hkn : kx < G.length := by omega
          have hnx : U ++ L.take (j + 1) = U ++ L.take j ++ [(kx : Int)] := by rw [List.take_succ_eq_append_getElem hlj, hkx, List.append_assoc]
          obtain ⟨hsc, hsf⟩ := hM.seen hkn
          rw [hkx] at hx
          have HN2 := Lib.hid (hM.mark hkn)
          have HF2 : Hid (Fr (At1 w.heap.size) wo (wr.setCell ⟨w.heap.size, kx, none⟩ (.bool true))) := hfw.trans (fr_set _ _ _ _)
          rw [← hnx] at HN2
          clear hM hfw hrd h0 h1 hkx hnx cur hcur
          go_wp2
          go_roundw
          case rel => exact ⟨j + 1, by omega, HN2.out, by go_num, HF2.out⟩
          case measure => simp [intOf]; omega
        · obtain rfl : j = L.length := by omega
          rw [List.take_length] at hM
          have HM4 := Lib.hid hM.nil
          clear hM
          go_wp2
          generalize hMK : U ++ L = M at *
          generalize wr = wp at *
          go_loopw [10, 55] (fun lv iv wr => O3 w M G.length lv iv wr) (fun _ iv _ => G.length - (intOf iv).toNat)
          case atStart => exact ⟨0, none, 0, Nat.zero_le _, HM4.out, rfl, rfl⟩
          case round =>
            obtain ⟨i, Al, cl, hi2, hM, rfl, rfl⟩ := hrel
            have hpl3 := pick_len (fun a => !M.contains (a : Int)) i
            by_cases hli : i < G.length
            · have hy := fun h => pick_yes (q := fun a => !M.contains (a : Int)) (i := i) h
              have hnn := fun h => pick_no (q := fun a => !M.contains (a : Int)) (i := i) h
              obtain ⟨hsc, hsf⟩ := hM.seen hli
              have HMM := Lib.hid hM
              clear hM
              generalize hPQ : pick (fun a => !M.contains (a : Int)) i = V at *
              generalize hPR : pick (fun a => !M.contains (a : Int)) (i + 1) = V2 at *
              by_cases hin : M.contains (i : Int) = true
              · rw [hin] at hsc
                have HV : Hid (V2 = V) := hnn (by rw [hin]; rfl)
                clear hy hnn hin
                go_wp2
                go_roundw
                case rel => exact ⟨i + 1, Al, cl, by omega, by rw [hPR, HV.out]; exact HMM.out, by rw [hPR, HV.out], by go_num⟩
                case measure => simp [intOf]; omega
              · have hin2 : M.contains (i : Int) = false := by simpa using hin
                rw [hin2] at hsc
                have HV : Hid (V2 = V ++ [(i : Int)]) := hy (by rw [hin2]; rfl)
                clear hy hnn hin hin2
                go_wp2_with (at_builtin; refine wpList_app _ rfl (.tmp 63) (.tmp 65) 66 66 rfl elKI (HMM.out.so.alloc (.cells #[.int .i64 (i : Int)] 3)) rfl (Src.of_new (cs := #[.int .i64 (i : Int)]) (t := 3) wr.heap.size (heap_alloc_new wr _) Tryz.underlying66 rfl (by simp [Value.oneCell'])) rfl (by simp only [maxLen]; omega) (by omega) ?_; intro v4 w4 ho4 hf4 hn4; obtain ⟨A4, c4, rfl, -, -⟩ := ho4.form; have HM6 := Lib.hid (OpM.app HMM.out ho4 hf4 hn4); clear ho4 hf4 hn4)
                go_roundw
                case rel => exact ⟨i + 1, A4, c4, by omega, by rw [hPR, HV.out]; exact HM6.out, by rw [hPR, HV.out, List.length_append]; rfl, by go_num⟩
                case measure => simp [intOf]; omega
            · obtain rfl : i = G.length := by omega
              have HM5 := Lib.hid hM
              clear hM
              go_wp2
              go_ret
              refine ⟨_, pick_up _ _, fun x => ?_, _, rfl, HM5.out.so, HM5.out.f.mono fun _ _ h => h.elim, ?_⟩
              · rw [pick_mem]
                unfold openX
                rw [hPK]
                refine exists_congr fun a => and_congr_right fun ha => ?_
                rw [← hMK]
                constructor
                · rintro ⟨h1, rfl⟩
                  have h2 : (a : Int) ∉ U ++ L := by simpa using h1
                  refine ⟨rfl, ?_, fun h => h2 (List.mem_append.2 (.inr ((HK2.out _).2 h)))⟩
                  cases hq : unk kl a with
                  | false => rfl
                  | true => exact absurd (List.mem_append.2 (.inl ((HMEM.out _).2 ⟨a, ha, hq, rfl⟩))) h2
                · rintro ⟨rfl, h1, h2⟩
                  refine ⟨?_, rfl⟩
                  have h3 : (a : Int) ∉ U ++ L := fun h => by
                    rcases List.mem_append.1 h with h | h
                    · obtain ⟨b, _, hb, e⟩ := (HMEM.out _).1 h
                      have : a = b := by omega
                      subst this
                      rw [h1] at hb
                      cases hb
                    · exact h2 ((HK2.out _).1 h)
                  simpa using h3
              · cases Al with
                | none => exact .inl rfl
                | some ad => exact .inr ⟨ad.block, rfl, HM5.out.sn _ rfl⟩
end Go.Proofs.YtcpgamidimfflaaGreat
